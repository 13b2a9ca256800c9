/- The contract of the reference's Place, over one of Eval at the parts. -/
import Derived.Test.YtomnbidppkpfiaaDoorEvRFind
import Derived.Test.YtomnbidppkpfiaaDoorEvOf
import Derived.Test.YtomnbidppkpfiaaDoorEvSto
import Derived.Test.YtomnbidppkpfiaaDoorBaseAll
import Derived.Deep.CutRange
import Derived.Test.YtomnbidppkpfiaaDoorPlainRw
namespace Go.Proofs.YtomnbidppkpfiaaDoor.Line
open Go.ChangeShapes Go.WideShapes Go.ChangeAt Go.RowKit
open Ex (E)
open Ev (Sy Res)
set_option linter.unusedVariables false

abbrev WrT : TypeId := 50
/-- what the reference's Eval answers at a tree -/
def REvalOk (T : List Sy) (s : List Int) (x : E) : Prop := ∀ (w : World) (sv : Value) (c : Int) (stv sx : Value), Syms w sv T → Ints w stv s → Forest w (fun _ => True) x.a sx → Calls Tryd.prog 13 #[.agg #[sv, .int .i64 c], stv, treeV x sx] w fun e w' => ∃ g, e = .returned (.tuple #[.int .i64 (Ev.ev T s x).v, g]) ∧ Told w.heap.size w' g (Ev.ev T s x).word (Ev.ev T s x).at_ (Ev.ev T s x).err ∧ Below w.heap.size w w'
theorem told_shape {B : Nat} {w : World} {g : Value} {word : List UInt8} {k err : Nat} (h : Told B w g word k err) : ∃ a n c, g = .agg #[.slice a n c, .int .i64 err] := by
  rcases h with ⟨h0, rfl⟩ | ⟨_, b, _, rfl, _⟩
  · exact ⟨none, 0, 0, by rw [h0]; rfl⟩
  · exact ⟨_, 1, 1, rfl⟩
/-- the boxes of Place -/
structure PM (w W : World) (sv : Value) (c : Int) (x : E) (sx : Value) (yb : Nat) (y : Sy) (dv : Value) : Prop where
  t0 : W.cell? ⟨w.heap.size, 0, none⟩ = some sv
  t1 : W.cell? ⟨w.heap.size, 1, none⟩ = some (.int .i64 c)
  e3 : W.cell? ⟨w.heap.size + 1, 3, none⟩ = some sx
  r0 : W.cell? ⟨w.heap.size + 2, 0, none⟩ = some (.slice none 0 0)
  r1 : W.cell? ⟨w.heap.size + 2, 1, none⟩ = some (.int .i64 0)
  f0 : W.frozen? ⟨w.heap.size + 2, 0, none⟩ = false
  f1 : W.frozen? ⟨w.heap.size + 2, 1, none⟩ = false
  y1 : W.cell? ⟨yb, 1, none⟩ = some dv
  y2 : W.cell? ⟨yb, 2, none⟩ = some (.int .i64 y.at_)
  dims : Ints W dv y.dims
  old : Below w.heap.size w W
  sz : w.heap.size + 3 ≤ W.heap.size
theorem PM.below {w W W' : World} {sv : Value} {c : Int} {x : E} {sx : Value} {yb : Nat} {y : Sy} {dv : Value} (h : PM w W sv c x sx yb y dv) (hb : Below W.heap.size W W') : PM w W' sv c x sx yb y dv := by
  have hs := h.sz
  have hc : ∀ {b o : Nat} {v : Value}, W.cell? ⟨b, o, none⟩ = some v → W'.cell? ⟨b, o, none⟩ = some v := fun {b o v} h => (hb.cell (p := ⟨b, o, none⟩) (cell_lt h)).trans h
  have hf : ∀ o, W'.frozen? ⟨w.heap.size + 2, o, none⟩ = W.frozen? ⟨w.heap.size + 2, o, none⟩ := fun o => hb.frozen (p := ⟨w.heap.size + 2, o, none⟩) (show w.heap.size + 2 < _ by omega)
  exact ⟨hc h.t0, hc h.t1, hc h.e3, hc h.r0, hc h.r1, (hf 0).trans h.f0, (hf 1).trans h.f1, hc h.y1, hc h.y2, h.dims.below hb, bthen h.old hb, by have := hb.size; omega⟩
/-- in the midst of the first loop: the subscripts' values so far -/
structure PL (w W : World) (sv : Value) (c : Int) (x : E) (sx : Value) (yb : Nat) (y : Sy) (dv lv : Value) (l : List Int) : Prop where
  m : PM w W sv c x sx yb y dv
  row : Dn (w.heap.size + 3) W lv l
  ye : yb < w.heap.size + 3 ∨ True
/-- what is left of the subscripts -/
def leftR (T : List Sy) (s : List Int) (l : List E) (L : List Int) (dims : List Int) (at_ : Int) : Res := match Ev.evs T s l with | .inl r => r | .inr m => Ev.cellGo 0 (L ++ m) dims at_ 1
theorem leftR_nil (T : List Sy) (s : List Int) (L : List Int) (dims : List Int) (at_ : Int) : leftR T s [] L dims at_ = Ev.cellGo 0 L dims at_ 1 := by
  unfold leftR; rw [Ev.evs]; simp
theorem leftR_bad (T : List Sy) (s : List Int) (z : E) (q : List E) (L : List Int) (dims : List Int) (at_ : Int) (h : (Ev.ev T s z).err ≠ 0) : leftR T s (z :: q) L dims at_ = Ev.ev T s z := by
  unfold leftR; rw [Ev.evs, if_pos h]
theorem leftR_next (T : List Sy) (s : List Int) (z : E) (q : List E) (L : List Int) (dims : List Int) (at_ : Int) (h : (Ev.ev T s z).err = 0) : leftR T s (z :: q) L dims at_ = leftR T s q (L ++ [(Ev.ev T s z).v]) dims at_ := by
  unfold leftR; rw [Ev.evs, if_neg (by omega)]
  cases Ev.evs T s q with
  | inl r => rfl
  | inr m => simp
def S7 (w : World) (sv : Value) (c : Int) (xs : Value) (xb o : Nat) (z : E) (zv : Value) (W : World) : Prop := W.cell? ⟨w.heap.size, 0, none⟩ = some sv ∧ W.cell? ⟨w.heap.size, 1, none⟩ = some (.int .i64 c) ∧ W.cell? ⟨w.heap.size + 1, 3, none⟩ = some xs ∧ W.cell? ⟨xb, o, none⟩ = some (.int .i64 z.kind) ∧ W.cell? ⟨xb, o + 1, none⟩ = some (.int .i64 z.n) ∧ W.cell? ⟨xb, o + 2, none⟩ = some (.string ⟨z.name.toArray⟩) ∧ W.cell? ⟨xb, o + 3, none⟩ = some zv
theorem S7.keep {w W W' : World} {sv : Value} {c : Int} {xs : Value} {xb o : Nat} {z : E} {zv : Value} (h : S7 w sv c xs xb o z zv W) (hb : Below W.heap.size W W') : S7 w sv c xs xb o z zv W' := by
  have hc : ∀ {b o : Nat} {v : Value}, W.cell? ⟨b, o, none⟩ = some v → W'.cell? ⟨b, o, none⟩ = some v := fun {b o v} h => (hb.cell (p := ⟨b, o, none⟩) (cell_lt h)).trans h
  obtain ⟨h0, h1, h2, h3, h4, h5, h6⟩ := h
  exact ⟨hc h0, hc h1, hc h2, hc h3, hc h4, hc h5, hc h6⟩
theorem told_set {B : Nat} {w : World} {g : Value} {word : List UInt8} {k err : Nat} (h : Told B w g word k err) (p : Addr) (hp : p.block < B) (u : Value) : Told B (w.setCell p u) g word k err := by
  rcases h with h | ⟨h0, b, h1, h2, h3, h4⟩
  · exact .inl h
  · have hk : (w.setCell p u).heap[b]? = w.heap[b]? := Below.heap_setCell _ _ _ _ (fun e => by omega)
    exact .inr ⟨h0, b, h1, h2, (World.cell?_of_block hk).trans h3, (World.cell?_of_block hk).trans h4⟩
theorem wr_al0 (V : World) : (V.alloc (.cells #[.slice none 0 0, .int .i64 0] WrT)).cell? ⟨V.heap.size, 0, none⟩ = some (.slice none 0 0) := by simp [go_sem]
theorem wr_al1 (V : World) : (V.alloc (.cells #[.slice none 0 0, .int .i64 0] WrT)).cell? ⟨V.heap.size, 1, none⟩ = some (.int .i64 0) := by simp [go_sem]
theorem wr_alf (V : World) (o : Nat) : (V.alloc (.cells #[.slice none 0 0, .int .i64 0] WrT)).frozen? ⟨V.heap.size, o, none⟩ = false := by simp [go_sem]
theorem told_below {B : Nat} {w : World} {g : Value} {word : List UInt8} {k err : Nat} (h : Told B w g word k err) {B' : Nat} (hB : B' ≤ B) : Told B' w g word k err := by
  rcases h with h | ⟨h0, b, h1, h2⟩
  · exact .inl h
  · exact .inr ⟨h0, b, by omega, h2⟩
set_option maxHeartbeats 8000000 in
set_option maxRecDepth 100000 in
theorem rplace_any (T : List Sy) (s : List Int) (hT : Ev.Fine T) (x : E) (hl : x.a.length ≤ 1000) (y : Sy) (hf : Ev.find T x.name = some y) (hd : y.dims.length = x.a.length) (ih : ∀ z ∈ x.a, REvalOk T s z) (w : World) (sv : Value) (c : Int) (stv sx : Value) (hs : Syms w sv T) (hst : Ints w stv s) (hx : Forest w (fun _ => True) x.a sx) (hp : Ev.parts x = x.a) :
    Calls Tryd.prog 16 #[.agg #[sv, .int .i64 c], stv, treeV x sx] w fun e w' => ∃ g, e = .returned (.tuple #[.int .i64 (placeP T s x).v, g]) ∧ Told w.heap.size w' g (placeP T s x).word (placeP T s x).at_ (placeP T s x).err ∧ Below w.heap.size w w' := by
  have c1 := alloc_below w (.cells #[sv, .int .i64 c] RTb)
  have z1 : (w.alloc (.cells #[sv, .int .i64 c] RTb)).heap.size = w.heap.size + 1 := by simp
  have c2 := alloc_below (w.alloc (.cells #[sv, .int .i64 c] RTb)) (.cells #[.int .i64 x.kind, .int .i64 x.n, .string ⟨x.name.toArray⟩, sx] ET)
  have c3 := alloc_below ((w.alloc (.cells #[sv, .int .i64 c] RTb)).alloc (.cells #[.int .i64 x.kind, .int .i64 x.n, .string ⟨x.name.toArray⟩, sx] ET)) (.cells #[.slice none 0 0, .int .i64 0] WrT)
  have b3 := bthen c1 (bthen c2 c3)
  have k0 : (((w.alloc (.cells #[sv, .int .i64 c] RTb)).alloc (.cells #[.int .i64 x.kind, .int .i64 x.n, .string ⟨x.name.toArray⟩, sx] ET)).alloc (.cells #[.slice none 0 0, .int .i64 0] WrT)).cell? ⟨w.heap.size, 0, none⟩ = some sv := by simp [go_sem]
  have k1 : (((w.alloc (.cells #[sv, .int .i64 c] RTb)).alloc (.cells #[.int .i64 x.kind, .int .i64 x.n, .string ⟨x.name.toArray⟩, sx] ET)).alloc (.cells #[.slice none 0 0, .int .i64 0] WrT)).cell? ⟨w.heap.size, 1, none⟩ = some (.int .i64 c) := by simp [go_sem]
  have k2 : (((w.alloc (.cells #[sv, .int .i64 c] RTb)).alloc (.cells #[.int .i64 x.kind, .int .i64 x.n, .string ⟨x.name.toArray⟩, sx] ET)).alloc (.cells #[.slice none 0 0, .int .i64 0] WrT)).cell? ⟨w.heap.size + 1, 2, none⟩ = some (.string ⟨x.name.toArray⟩) := by simp [go_sem]
  have k3 : (((w.alloc (.cells #[sv, .int .i64 c] RTb)).alloc (.cells #[.int .i64 x.kind, .int .i64 x.n, .string ⟨x.name.toArray⟩, sx] ET)).alloc (.cells #[.slice none 0 0, .int .i64 0] WrT)).cell? ⟨w.heap.size + 1, 3, none⟩ = some sx := by simp [go_sem]
  have k4 : (((w.alloc (.cells #[sv, .int .i64 c] RTb)).alloc (.cells #[.int .i64 x.kind, .int .i64 x.n, .string ⟨x.name.toArray⟩, sx] ET)).alloc (.cells #[.slice none 0 0, .int .i64 0] WrT)).cell? ⟨w.heap.size + 2, 0, none⟩ = some (.slice none 0 0) := by simp [go_sem]
  have k5 : (((w.alloc (.cells #[sv, .int .i64 c] RTb)).alloc (.cells #[.int .i64 x.kind, .int .i64 x.n, .string ⟨x.name.toArray⟩, sx] ET)).alloc (.cells #[.slice none 0 0, .int .i64 0] WrT)).cell? ⟨w.heap.size + 2, 1, none⟩ = some (.int .i64 0) := by simp [go_sem]
  have kf : ∀ o, (((w.alloc (.cells #[sv, .int .i64 c] RTb)).alloc (.cells #[.int .i64 x.kind, .int .i64 x.n, .string ⟨x.name.toArray⟩, sx] ET)).alloc (.cells #[.slice none 0 0, .int .i64 0] WrT)).frozen? ⟨w.heap.size + 2, o, none⟩ = false := fun o => by simp [go_sem]
  have z3 : (((w.alloc (.cells #[sv, .int .i64 c] RTb)).alloc (.cells #[.int .i64 x.kind, .int .i64 x.n, .string ⟨x.name.toArray⟩, sx] ET)).alloc (.cells #[.slice none 0 0, .int .i64 0] WrT)).heap.size = w.heap.size + 3 := by simp
  have HFI := hide (rfind_any _ sv c T x.name (hs.below b3))
  have HAL := hide (And.intro hs (And.intro hst hx))
  have HIH := hide ih
  have HPL : Hid (placeP T s x = leftR T s (x.a.drop 0) [] y.dims y.at_) := hide (by unfold placeP leftR Ev.cellP; rw [hp, hf, List.drop_zero]; rfl)
  have hfin := hT y (Ev.find_mem hf)
  rw [hf] at HFI
  obtain ⟨sa, sc, rfl⟩ := hs.shape
  obtain ⟨ta, tc, rfl⟩ := hst.shape
  obtain ⟨xa, xc, rfl⟩ := hx.shape
  clear c1 c2 c3 z1 hs hst hx ih hT hf
  generalize placeP T s x = R at *
  generalize hTn : T.length = tn at *
  generalize hsn : s.length = sn at *
  generalize hxn : x.a.length = xn at *
  have HB3 := hide b3
  clear b3
  generalize hW3 : (((w.alloc (.cells #[.slice sa tn sc, .int .i64 c] RTb)).alloc (.cells #[.int .i64 x.kind, .int .i64 x.n, .string ⟨x.name.toArray⟩, .slice xa xn xc] ET)).alloc (.cells #[.slice none 0 0, .int .i64 0] WrT)) = W3 at *
  have HW3 := hide hW3
  clear hW3
  go_enter Tryd.func16, Tryd.ntmps16
  go_upto_region 1 with fail
  rw [unhide HW3]
  go_wp2_with fail
  refine (unhide HFI).mono ?_
  rintro ev w4 ⟨dv, rfl, hI, hb4⟩
  have a4 := alloc_below w4 (.cells #[.string ⟨y.name.toArray⟩, dv, .int .i64 y.at_, .int .i64 y.size] RSy)
  have b5 := bthen hb4 a4
  have hck : ∀ {b o : Nat} {v : Value}, W3.cell? ⟨b, o, none⟩ = some v → (w4.alloc (.cells #[.string ⟨y.name.toArray⟩, dv, .int .i64 y.at_, .int .i64 y.size] RSy)).cell? ⟨b, o, none⟩ = some v := fun {b o v} h => (b5.cell (p := ⟨b, o, none⟩) (cell_lt h)).trans h
  have hM : PM w (w4.alloc (.cells #[.string ⟨y.name.toArray⟩, dv, .int .i64 y.at_, .int .i64 y.size] RSy)) (.slice sa tn sc) c x (.slice xa xn xc) w4.heap.size y dv := ⟨hck k0, hck k1, hck k3, hck k4, hck k5, (b5.frozen (p := ⟨w.heap.size + 2, 0, none⟩) (cell_lt k4)).trans (kf 0), (b5.frozen (p := ⟨w.heap.size + 2, 1, none⟩) (cell_lt k4)).trans (kf 1), by simp, by simp, hI.below a4, bthen (unhide HB3) b5, by have := b5.size; omega⟩
  have HM := hide hM
  obtain ⟨da, dc, hda⟩ := hI.shape
  change dv = .slice da y.dims.length dc at hda
  rw [hd] at hda
  subst hda
  have hyb : w.heap.size + 3 ≤ w4.heap.size := by have := hb4.size; omega
  clear hI hb4 a4 b5 hck hM k0 k1 k2 k3 k4 k5 kf z3 HFI
  -- FROM HERE
  go_upto_region 4 with fail
  have hWz : (w4.alloc (.cells #[.string ⟨y.name.toArray⟩, .slice da xn dc, .int .i64 y.at_, .int .i64 y.size] RSy)).heap.size = w4.heap.size + 1 := by simp
  generalize (w4.alloc (.cells #[.string ⟨y.name.toArray⟩, .slice da xn dc, .int .i64 y.at_, .int .i64 y.size] RSy)) = W0 at *
  generalize w4.heap.size = yb at *
  go_loopw [10, 11] (fun v q wr => ∃ (i : Nat) (L : List Int), i ≤ xn ∧ L.length = i ∧ q = .int .i64 i ∧ Hid (Below W0.heap.size W0 wr ∧ Dn W0.heap.size wr v L) ∧ Hid (R = leftR T s (x.a.drop i) L y.dims y.at_)) (fun _ q _ => xn - (intOf q).toNat)
  case atStart => exact ⟨0, [], Nat.zero_le _, rfl, rfl, hide ⟨Below.refl _ _, World.ownsRow_nil _ _ _ _⟩, HPL⟩
  case round =>
    obtain ⟨i, L, hi, hLl, rfl, HD, HRR⟩ := hrel
    have HMr := hide ((unhide HM).below (unhide HD).1)
    obtain ⟨va, vc, hvs⟩ := (unhide HD).2.shape
    rw [hLl] at hvs
    subst hvs
    have hwr : w.heap.size + 3 ≤ wr.heap.size := by have := (unhide HD).1.size; omega
    have t0 := (unhide HMr).t0
    have t1 := (unhide HMr).t1
    have e3 := (unhide HMr).e3
    by_cases hlt : i < xn
    · have hlt' : i < x.a.length := by omega
      have hlt2 : (i : Int) < xn := by omega
      have HF := hide ((unhide HAL).2.2.old (unhide HMr).old)
      obtain ⟨xb, xo, xcap, sl, hv, hc1, hc2, hcl, hfs⟩ := (unhide HF).at (by omega)
      rw [hxn] at hv
      injection hv with hv1 hv2 hv3
      subst hv1 hv3
      obtain ⟨c0, c1, c2, c3⟩ := hcl i hlt'
      have hrr := unhide HRR
      rw [List.drop_eq_getElem_cons hlt'] at hrr
      have HR2 := hide hrr
      have HQ0 := unhide HIH x.a[i] (List.getElem_mem hlt')
      have HQ := hide HQ0
      have HFI := hide (hfs i hlt')
      have hEZ := Ev.ev_zero T s x.a[i]
      have HL3 := leftR_next T s x.a[i] (x.a.drop (i + 1)) L y.dims y.at_
      have HL4 := leftR_bad T s x.a[i] (x.a.drop (i + 1)) L y.dims y.at_
      generalize hrest : x.a.drop (i + 1) = rest at *
      generalize x.a[i] = z at *
      generalize sl i = zv at *
      have HEZ := hide hEZ
      clear hcl hfs hrr HRR HF hEZ HQ0
      go_wp2_with fail
      go_upto_region 6 with fail
      have HCA := hide (fun n => unhide HQ (wr.drewN n) (.slice sa tn sc) c (.slice ta sn tc) zv ((unhide HAL).1.below (below_drewN (unhide HMr).old n)) ((unhide HAL).2.1.below (below_drewN (unhide HMr).old n)) ((unhide HFI).old (below_drewN (Below.refl _ _) n)))
      have HCB := hide (fun n => unhide HQ ((wr.drewN n).alloc (.cells #[.slice none 0 0, .int .i64 0] WrT)) (.slice sa tn sc) c (.slice ta sn tc) zv ((unhide HAL).1.below (bthen (below_drewN (unhide HMr).old n) (alloc_below _ _))) ((unhide HAL).2.1.below (bthen (below_drewN (unhide HMr).old n) (alloc_below _ _))) ((unhide HFI).old (bthen (below_drewN (Below.refl _ _) n) (alloc_below _ _))))
      refine wp_regionE (S7 w (.slice sa tn sc) c (.slice (some ⟨xb, xo, none⟩) xn xc) xb (xo + i * 4) z zv) (fun j => decide (j < 13)) (by kernel_rfl) ⟨t0, t1, e3, c0, c1, c2, c3⟩ (fun hS => ?_)
      have HCA1 := hide (unhide HCA 1)
      have HCB1 := hide (unhide HCB 1)
      clear HCA HCB t0 t1 e3 c0 c1 c2 c3
      refine anyE_take 0 (v := ?_) rfl (by kernel_rfl) (by kernel_rfl) (by kernel_rfl) (by kernel_rfl) (fun _ _ _ h => h) hS (Or.inl ⟨by rfl, ?_⟩) ?_
      rotate_left
      · intro w' hS'
        obtain ⟨e0, e1, e2, e4, e5, e6, e7⟩ := hS'
        go_simp
        try with_reducible rfl
      try simp only [List.getElem_toArray, List.getElem_cons_zero, Act.put, List.setIfInBounds_toArray, List.set_cons_zero, List.set_cons_succ]
      refine anyE_take 1 (v := ?_) rfl (by kernel_rfl) (by kernel_rfl) (by kernel_rfl) (by kernel_rfl) (fun _ _ _ h => h) hS (Or.inl ⟨by rfl, ?_⟩) ?_
      rotate_left
      · intro w' hS'
        obtain ⟨e0, e1, e2, e4, e5, e6, e7⟩ := hS'
        go_simp
        try with_reducible rfl
      try simp only [List.getElem_toArray, List.getElem_cons_succ, List.getElem_cons_zero, Act.put, List.setIfInBounds_toArray, List.set_cons_zero, List.set_cons_succ]
      refine anyE_take 2 (v := ?_) rfl (by kernel_rfl) (by kernel_rfl) (by kernel_rfl) (by kernel_rfl) (fun _ _ _ h => h) hS (Or.inl ⟨by rfl, ?_⟩) ?_
      rotate_left
      · intro w' hS'
        obtain ⟨e0, e1, e2, e4, e5, e6, e7⟩ := hS'
        go_simp
        try with_reducible rfl
      try simp only [List.getElem_toArray, List.getElem_cons_succ, List.getElem_cons_zero, Act.put, List.setIfInBounds_toArray, List.set_cons_zero, List.set_cons_succ]
      refine anyE_take 3 (v := ?_) rfl (by kernel_rfl) (by kernel_rfl) (by kernel_rfl) (by kernel_rfl) (fun _ _ _ h => h) hS (Or.inl ⟨by rfl, ?_⟩) ?_
      rotate_left
      · intro w' hS'
        obtain ⟨e0, e1, e2, e4, e5, e6, e7⟩ := hS'
        go_simp
        try with_reducible rfl
      try simp only [List.getElem_toArray, List.getElem_cons_succ, List.getElem_cons_zero, Act.put, List.setIfInBounds_toArray, List.set_cons_zero, List.set_cons_succ]
      refine anyE_take 4 (v := ?_) rfl (by kernel_rfl) (by kernel_rfl) (by kernel_rfl) (by kernel_rfl) (fun _ _ _ h => h) hS (Or.inl ⟨by rfl, ?_⟩) ?_
      rotate_left
      · intro w' hS'
        obtain ⟨e0, e1, e2, e4, e5, e6, e7⟩ := hS'
        go_simp
        try with_reducible rfl
      try simp only [List.getElem_toArray, List.getElem_cons_succ, List.getElem_cons_zero, Act.put, List.setIfInBounds_toArray, List.set_cons_zero, List.set_cons_succ]
      refine anyE_take 5 (v := ?_) rfl (by kernel_rfl) (by kernel_rfl) (by kernel_rfl) (by kernel_rfl) (fun _ _ _ h => h) hS (Or.inl ⟨by rfl, ?_⟩) ?_
      rotate_left
      · intro w' hS'
        obtain ⟨e0, e1, e2, e4, e5, e6, e7⟩ := hS'
        go_simp
        try with_reducible rfl
      try simp only [List.getElem_toArray, List.getElem_cons_succ, List.getElem_cons_zero, Act.put, List.setIfInBounds_toArray, List.set_cons_zero, List.set_cons_succ]
      refine anyE_take 6 (v := ?_) rfl (by kernel_rfl) (by kernel_rfl) (by kernel_rfl) (by kernel_rfl) (fun _ _ _ h => h) hS (Or.inl ⟨by rfl, ?_⟩) ?_
      rotate_left
      · intro w' hS'
        obtain ⟨e0, e1, e2, e4, e5, e6, e7⟩ := hS'
        go_simp
        try with_reducible rfl
      try simp only [List.getElem_toArray, List.getElem_cons_succ, List.getElem_cons_zero, Act.put, List.setIfInBounds_toArray, List.set_cons_zero, List.set_cons_succ]
      refine anyE_ready [7, 11] (by kernel_rfl) (by simp) (ReadyE.cons rfl (fun K' hK => ?_) (ReadyE.cons rfl (fun K' hK => ?_) ReadyE.nil))
      · clear HCB1
        go_simp
        refine (unhide HCA1).mono ?_
        rintro ev w5 ⟨g, rfl, htd, hb5⟩
        obtain ⟨ga, gn, gc, rfl⟩ := told_shape htd
        dsimp only
        refine hK _ w5 (fun _ => S7.keep hS hb5) ?_
        replace hS := S7.keep hS hb5
        clear hK K' HCA1
        try simp only [List.getElem_toArray, List.getElem_cons_succ, List.getElem_cons_zero, Act.put, List.setIfInBounds_toArray, List.set_cons_zero, List.set_cons_succ]
        have HB5 := hide hb5
        have HTD := hide htd
        clear hb5 htd
        refine anyE_take 8 (v := ?_) rfl (by kernel_rfl) (by kernel_rfl) (by kernel_rfl) (by kernel_rfl) (fun _ _ _ h => h) hS (Or.inl ⟨by rfl, ?_⟩) ?_
        rotate_left
        · intro w' hS'
          obtain ⟨e0, e1, e2, e4, e5, e6, e7⟩ := hS'
          go_simp
          try with_reducible rfl
        try simp only [List.getElem_toArray, List.getElem_cons_succ, List.getElem_cons_zero, Act.put, List.setIfInBounds_toArray, List.set_cons_zero, List.set_cons_succ]
        refine anyE_take 9 (v := ?_) rfl (by kernel_rfl) (by kernel_rfl) (by kernel_rfl) (by kernel_rfl) (fun _ _ _ h => h) hS (Or.inl ⟨by rfl, ?_⟩) ?_
        rotate_left
        · intro w' hS'
          obtain ⟨e0, e1, e2, e4, e5, e6, e7⟩ := hS'
          go_simp
          try with_reducible rfl
        try simp only [List.getElem_toArray, List.getElem_cons_succ, List.getElem_cons_zero, Act.put, List.setIfInBounds_toArray, List.set_cons_zero, List.set_cons_succ]
        refine anyE_take 10 (v := ?_) rfl (by kernel_rfl) (by kernel_rfl) (by kernel_rfl) (by kernel_rfl) (fun _ _ _ h => h) hS (Or.inl ⟨by rfl, ?_⟩) ?_
        rotate_left
        · intro w' hS'
          obtain ⟨e0, e1, e2, e4, e5, e6, e7⟩ := hS'
          go_simp
          try with_reducible rfl
        try simp only [List.getElem_toArray, List.getElem_cons_succ, List.getElem_cons_zero, Act.put, List.setIfInBounds_toArray, List.set_cons_zero, List.set_cons_succ]
        refine anyE_ready [11] (by kernel_rfl) (by simp) (ReadyE.cons rfl (fun K' hK => ?_) ReadyE.nil)
        go_simp
        have hS0 := hS
        have hb5 := alloc_below w5 (.cells #[.slice none 0 0, .int .i64 0] WrT)
        refine hK _ _ (fun _ => S7.keep hS hb5) ?_
        replace hS := S7.keep hS hb5
        clear hK K' hb5
        try simp only [List.getElem_toArray, List.getElem_cons_succ, List.getElem_cons_zero, Act.put, List.setIfInBounds_toArray, List.set_cons_zero, List.set_cons_succ]
        refine anyE_take 12 (v := ?_) rfl (by kernel_rfl) (by kernel_rfl) (by kernel_rfl) (by kernel_rfl) (fun _ _ _ h => h) hS (Or.inl ⟨by rfl, ?_⟩) ?_
        rotate_left
        · intro w' hS'
          obtain ⟨e0, e1, e2, e4, e5, e6, e7⟩ := hS'
          go_simp
          try with_reducible rfl
        try simp only [List.getElem_toArray, List.getElem_cons_succ, List.getElem_cons_zero, Act.put, List.setIfInBounds_toArray, List.set_cons_zero, List.set_cons_succ]
        refine anyE_ready [13] (by kernel_rfl) (by simp) (ReadyE.cons rfl (fun K' hK => ?_) ReadyE.nil)
        go_simp
        have hB6 := alloc_below w5 (.cells #[.slice ga gn gc, .int .i64 (Ev.ev T s z).err] WrT)
        refine hK _ _ (fun _ => S7.keep hS0 hB6) ?_
        clear hK K'
        try simp only [List.getElem_toArray, List.getElem_cons_succ, List.getElem_cons_zero, Act.put, List.setIfInBounds_toArray, List.set_cons_zero, List.set_cons_succ]
        refine anyE_done (by kernel_rfl) ?_ _
        have HB6 := hide (bthen (below_drewN (Below.refl _ _) 1 : Below wr.heap.size wr (wr.drewN 1)) (bthen (unhide HB5) hB6))
        have HT6 := hide (told_below (B' := w.heap.size + 3) ((unhide HTD).below hB6) (by show _ ≤ wr.heap.size; omega))
        have d0 : (w5.alloc (.cells #[.slice ga gn gc, .int .i64 (Ev.ev T s z).err] WrT)).cell? ⟨w5.heap.size, 0, none⟩ = some (.slice ga gn gc) := by simp [go_sem]
        have d1 : (w5.alloc (.cells #[.slice ga gn gc, .int .i64 (Ev.ev T s z).err] WrT)).cell? ⟨w5.heap.size, 1, none⟩ = some (.int .i64 (Ev.ev T s z).err) := by simp [go_sem]
        clear hB6 HB5 HTD hS hS0
        generalize (w5.alloc (.cells #[.slice ga gn gc, .int .i64 (Ev.ev T s z).err] WrT)) = W6 at *
        generalize Ev.ev T s z = V at *
        have HM6 := hide ((unhide HMr).below (unhide HB6))
        have HD6 := hide (And.intro (bthen (unhide HD).1 (unhide HB6)) (below_own (unhide HD).2 (unhide HB6)))
        clear HMr HD HB6
        generalize w5.heap.size = bx at *
        by_cases herr : V.err = 0
        · have d1' : W6.cell? ⟨bx, 1, none⟩ = some (.int .i64 0) := by rw [d1, herr]; rfl
          obtain ⟨v7, w7, hr7, hD7, hO7⟩ := append_done (unhide HD6).2 (unhide HD6).1.size (by omega) V.v
          have HB7 := hide ((unhide HD6).1.grown hO7.grown (unhide HD6).1.size (fun j hj => ((unhide HD6).2.lt j hj).1))
          have HD7 := hide hD7
          have HR7 := hide ((unhide HR2).trans (HL3 herr))
          clear hD7 hO7 d0 d1 HT6 HM6 HD6
          go_wp2_with (at_builtin; refine wpList_append_runG INTS rfl _ _ rfl rfl _ _ rfl rfl _ w7 hr7 ?_)
          go_roundw
          case rel => exact ⟨i + 1, L ++ [V.v], by omega, by simp [hLl], by go_num, hide ⟨unhide HB7, unhide HD7⟩, by rw [hrest]; exact HR7⟩
          case measure => simp [intOf]; omega
        · have hne : ¬ ((V.err : Nat) : Int) = 0 := by omega
          have HR7 := hide ((unhide HR2).trans (HL4 herr))
          have hv0 := unhide HEZ herr
          have r0 := (unhide HM6).r0
          have r1 := (unhide HM6).r1
          have f0 := (unhide HM6).f0
          have f1 := (unhide HM6).f1
          have ho6 := (unhide HM6).old
          go_wp2_with fail
          go_region
          go_wp2_with fail
          have ht6 := unhide HT6
          refine bodyPost_ret (v := .tuple #[.int .i64 0, .agg #[.slice ga gn gc, .int .i64 V.err]]) (by simp [results, Tryd.results16, go_sem, r0, r1]) rfl ⟨_, by rw [unhide HR7, hv0], ?_, ?_⟩
          · rw [unhide HR7]
            exact told_below (told_set (told_set (ht6.below (below_drewN (Below.refl _ _) 1)) ⟨w.heap.size + 2, 0, none⟩ (show w.heap.size + 2 < w.heap.size + 3 by omega) _) ⟨w.heap.size + 2, 1, none⟩ (show w.heap.size + 2 < w.heap.size + 3 by omega) _) (by omega)
          · exact ((below_drewN ho6 1).setCell (p := ⟨w.heap.size + 2, 0, none⟩) (show w.heap.size ≤ w.heap.size + 2 by omega) _).setCell (p := ⟨w.heap.size + 2, 1, none⟩) (show w.heap.size ≤ w.heap.size + 2 by omega) _
      · clear HCA1
        go_simp
        have hS0 := hS
        have hb5 := alloc_below wr.drew (.cells #[.slice none 0 0, .int .i64 0] WrT)
        refine hK _ _ (fun _ => S7.keep hS hb5) ?_
        replace hS := S7.keep hS hb5
        clear hK K' hb5
        try simp only [List.getElem_toArray, List.getElem_cons_succ, List.getElem_cons_zero, Act.put, List.setIfInBounds_toArray, List.set_cons_zero, List.set_cons_succ]
        refine anyE_ready [7] (by kernel_rfl) (by simp) (ReadyE.cons rfl (fun K' hK => ?_) ReadyE.nil)
        go_simp
        refine (unhide HCB1).mono ?_
        rintro ev w5 ⟨g, rfl, htd, hb5⟩
        obtain ⟨ga, gn, gc, rfl⟩ := told_shape htd
        dsimp only
        refine hK _ w5 (fun _ => S7.keep hS hb5) ?_
        replace hS := S7.keep hS hb5
        clear hK K' HCB1
        try simp only [List.getElem_toArray, List.getElem_cons_succ, List.getElem_cons_zero, Act.put, List.setIfInBounds_toArray, List.set_cons_zero, List.set_cons_succ]
        have p0 : w5.cell? ⟨wr.heap.size, 0, none⟩ = some (.slice none 0 0) := (hb5.cell (p := ⟨wr.heap.size, 0, none⟩) (by simp)).trans (wr_al0 (wr.drewN 1))
        have p1 : w5.cell? ⟨wr.heap.size, 1, none⟩ = some (.int .i64 0) := (hb5.cell (p := ⟨wr.heap.size, 1, none⟩) (by simp)).trans (wr_al1 (wr.drewN 1))
        have pf : ∀ o, w5.frozen? ⟨wr.heap.size, o, none⟩ = false := fun o => (hb5.frozen (p := ⟨wr.heap.size, o, none⟩) (by simp)).trans (wr_alf (wr.drewN 1) o)
        have HB5 := hide hb5
        have HTD := hide htd
        clear hb5 htd
        refine anyE_take 8 (v := ?_) rfl (by kernel_rfl) (by kernel_rfl) (by kernel_rfl) (by kernel_rfl) (fun _ _ _ h => h) hS (Or.inl ⟨by rfl, ?_⟩) ?_
        rotate_left
        · intro w' hS'
          obtain ⟨e0, e1, e2, e4, e5, e6, e7⟩ := hS'
          go_simp
          try with_reducible rfl
        try simp only [List.getElem_toArray, List.getElem_cons_succ, List.getElem_cons_zero, Act.put, List.setIfInBounds_toArray, List.set_cons_zero, List.set_cons_succ]
        refine anyE_take 9 (v := ?_) rfl (by kernel_rfl) (by kernel_rfl) (by kernel_rfl) (by kernel_rfl) (fun _ _ _ h => h) hS (Or.inl ⟨by rfl, ?_⟩) ?_
        rotate_left
        · intro w' hS'
          obtain ⟨e0, e1, e2, e4, e5, e6, e7⟩ := hS'
          go_simp
          try with_reducible rfl
        try simp only [List.getElem_toArray, List.getElem_cons_succ, List.getElem_cons_zero, Act.put, List.setIfInBounds_toArray, List.set_cons_zero, List.set_cons_succ]
        refine anyE_take 10 (v := ?_) rfl (by kernel_rfl) (by kernel_rfl) (by kernel_rfl) (by kernel_rfl) (fun _ _ _ h => h) hS (Or.inl ⟨by rfl, ?_⟩) ?_
        rotate_left
        · intro w' hS'
          obtain ⟨e0, e1, e2, e4, e5, e6, e7⟩ := hS'
          go_simp
          try with_reducible rfl
        try simp only [List.getElem_toArray, List.getElem_cons_succ, List.getElem_cons_zero, Act.put, List.setIfInBounds_toArray, List.set_cons_zero, List.set_cons_succ]
        refine anyE_take 12 (v := ?_) rfl (by kernel_rfl) (by kernel_rfl) (by kernel_rfl) (by kernel_rfl) (fun _ _ _ h => h) hS (Or.inl ⟨by rfl, ?_⟩) ?_
        rotate_left
        · intro w' hS'
          obtain ⟨e0, e1, e2, e4, e5, e6, e7⟩ := hS'
          go_simp
          try with_reducible rfl
        try simp only [List.getElem_toArray, List.getElem_cons_succ, List.getElem_cons_zero, Act.put, List.setIfInBounds_toArray, List.set_cons_zero, List.set_cons_succ]
        refine anyE_ready [13] (by kernel_rfl) (by simp) (ReadyE.cons rfl (fun K' hK => ?_) ReadyE.nil)
        go_simp
        have hB6 : Below wr.heap.size wr.drew ((w5.setCell ⟨wr.heap.size, 0, none⟩ (.slice ga gn gc)).setCell ⟨wr.heap.size, 1, none⟩ (.int .i64 (Ev.ev T s z).err)) := ((bthen (alloc_below wr.drew (.cells #[.slice none 0 0, .int .i64 0] WrT)) (unhide HB5)).setCell (p := ⟨wr.heap.size, 0, none⟩) (Nat.le_refl _) _).setCell (p := ⟨wr.heap.size, 1, none⟩) (Nat.le_refl _) _
        refine hK _ _ (fun _ => S7.keep hS0 hB6) ?_
        clear hK K'
        try simp only [List.getElem_toArray, List.getElem_cons_succ, List.getElem_cons_zero, Act.put, List.setIfInBounds_toArray, List.set_cons_zero, List.set_cons_succ]
        refine anyE_done (by kernel_rfl) ?_ _
        have HB6 := hide (bthen (below_drewN (Below.refl _ _) 1 : Below wr.heap.size wr (wr.drewN 1)) hB6)
        have HT6 := hide (told_below (B' := w.heap.size + 3) (told_set (told_set (unhide HTD) ⟨wr.heap.size, 0, none⟩ (by simp) (.slice ga gn gc)) ⟨wr.heap.size, 1, none⟩ (by simp) (.int .i64 (Ev.ev T s z).err)) (by simp; omega))
        have d0 : ((w5.setCell ⟨wr.heap.size, 0, none⟩ (.slice ga gn gc)).setCell ⟨wr.heap.size, 1, none⟩ (.int .i64 (Ev.ev T s z).err)).cell? ⟨wr.heap.size, 0, none⟩ = some (.slice ga gn gc) := by simp [go_sem, p0]
        have d1 : ((w5.setCell ⟨wr.heap.size, 0, none⟩ (.slice ga gn gc)).setCell ⟨wr.heap.size, 1, none⟩ (.int .i64 (Ev.ev T s z).err)).cell? ⟨wr.heap.size, 1, none⟩ = some (.int .i64 (Ev.ev T s z).err) := by simp [go_sem, p1]
        clear hB6 HB5 HTD hS hS0 p0 p1 pf
        generalize ((w5.setCell ⟨wr.heap.size, 0, none⟩ (.slice ga gn gc)).setCell ⟨wr.heap.size, 1, none⟩ (.int .i64 (Ev.ev T s z).err)) = W6 at *
        generalize Ev.ev T s z = V at *
        have HM6 := hide ((unhide HMr).below (unhide HB6))
        have HD6 := hide (And.intro (bthen (unhide HD).1 (unhide HB6)) (below_own (unhide HD).2 (unhide HB6)))
        clear HMr HD HB6
        generalize wr.heap.size = bx at *
        by_cases herr : V.err = 0
        · have d1' : W6.cell? ⟨bx, 1, none⟩ = some (.int .i64 0) := by rw [d1, herr]; rfl
          obtain ⟨v7, w7, hr7, hD7, hO7⟩ := append_done (unhide HD6).2 (unhide HD6).1.size (by omega) V.v
          have HB7 := hide ((unhide HD6).1.grown hO7.grown (unhide HD6).1.size (fun j hj => ((unhide HD6).2.lt j hj).1))
          have HD7 := hide hD7
          have HR7 := hide ((unhide HR2).trans (HL3 herr))
          clear hD7 hO7 d0 d1 HT6 HM6 HD6
          go_wp2_with (at_builtin; refine wpList_append_runG INTS rfl _ _ rfl rfl _ _ rfl rfl _ w7 hr7 ?_)
          go_roundw
          case rel => exact ⟨i + 1, L ++ [V.v], by omega, by simp [hLl], by go_num, hide ⟨unhide HB7, unhide HD7⟩, by rw [hrest]; exact HR7⟩
          case measure => simp [intOf]; omega
        · have hne : ¬ ((V.err : Nat) : Int) = 0 := by omega
          have HR7 := hide ((unhide HR2).trans (HL4 herr))
          have hv0 := unhide HEZ herr
          have r0 := (unhide HM6).r0
          have r1 := (unhide HM6).r1
          have f0 := (unhide HM6).f0
          have f1 := (unhide HM6).f1
          have ho6 := (unhide HM6).old
          go_wp2_with fail
          go_region
          go_wp2_with fail
          have ht6 := unhide HT6
          refine bodyPost_ret (v := .tuple #[.int .i64 0, .agg #[.slice ga gn gc, .int .i64 V.err]]) (by simp [results, Tryd.results16, go_sem, r0, r1]) rfl ⟨_, by rw [unhide HR7, hv0], ?_, ?_⟩
          · rw [unhide HR7]
            exact told_below (told_set (told_set (ht6.below (below_drewN (Below.refl _ _) 1)) ⟨w.heap.size + 2, 0, none⟩ (show w.heap.size + 2 < w.heap.size + 3 by omega) _) ⟨w.heap.size + 2, 1, none⟩ (show w.heap.size + 2 < w.heap.size + 3 by omega) _) (by omega)
          · exact ((below_drewN ho6 1).setCell (p := ⟨w.heap.size + 2, 0, none⟩) (show w.heap.size ≤ w.heap.size + 2 by omega) _).setCell (p := ⟨w.heap.size + 2, 1, none⟩) (show w.heap.size ≤ w.heap.size + 2 by omega) _
    · obtain rfl : i = xn := by omega
      obtain ⟨wp, hwp⟩ : ∃ wp, wp = wr := ⟨_, rfl⟩
      subst hwp
      have hR9 : R = Ev.cellGo 0 L y.dims y.at_ 1 := by rw [unhide HRR, List.drop_of_length_le (by omega), leftR_nil]
      have hlt3 : ¬ (i : Int) < i := by omega
      have hlt4 : decide ((i : Int) < i) = false := decide_eq_false hlt3
      have HIL := hide (own_ints (unhide HD).2)
      have HID := hide (unhide HMr).dims
      have y1 := (unhide HMr).y1
      have y2 := (unhide HMr).y2
      obtain ⟨h1, h2, h3, h4, h5⟩ := hfin
      have HS : Hid (Ev.Small 0 1 y.dims) := hide ⟨by omega, by omega, by omega, by rw [Int.one_mul]; exact h3, h2⟩
      have HR9 := hide hR9
      clear hR9 h2 h3
      go_wp2_with fail
      go_loopw [14, 15, 16] (fun a p q wr => ∃ (j : Nat) (A P : Int), j ≤ i ∧ q = .int .i64 j ∧ a = .int .i64 A ∧ p = .int .i64 P ∧ Hid (Ev.Small A P (y.dims.drop j)) ∧ Hid (R = Ev.cellGo j (L.drop j) (y.dims.drop j) (y.at_ + A) P) ∧ Hid (Below wp.heap.size wp wr ∧ ∀ a, wr.cell? a = wp.cell? a)) (fun _ _ q _ => i - (intOf q).toNat)
      case atStart => exact ⟨0, 0, 1, Nat.zero_le _, rfl, rfl, rfl, HS, hide (by rw [unhide HR9, Int.add_zero]; rfl), hide ⟨Below.refl _ _, fun _ => rfl⟩⟩
      case round =>
        obtain ⟨j, A, P, hj, rfl, rfl, rfl, HSM, HRQ, HND⟩ := hrel
        by_cases hlj : j < i
        · have i1 : j < L.length := by omega
          have i2 : j < y.dims.length := by omega
          have i4 : (j : Int) < i := by omega
          obtain ⟨lb, lo, lcap, hv, hc1, hc2, hcl⟩ := (unhide HIL).at (by omega)
          injection hv with hv1 hv2 hv3
          subst hv1
          obtain ⟨db, do_, dcap, hv', hd1, hd2, hcd⟩ := (unhide HID).at (by omega)
          injection hv' with hv1' hv2' hv3'
          subst hv1'
          have cl : wr.cell? ⟨lb, lo + j, none⟩ = some (.int .i64 L[j]) := ((unhide HND).2 _).trans (hcl j i1)
          have cd : wr.cell? ⟨db, do_ + j, none⟩ = some (.int .i64 y.dims[j]) := ((unhide HND).2 _).trans (hcd j i2)
          have y1' : wr.cell? ⟨yb, 1, none⟩ = some (.slice (some ⟨db, do_, none⟩) i dc) := ((unhide HND).2 _).trans y1
          have hSM := unhide HSM
          rw [List.drop_eq_getElem_cons i2] at hSM
          have hRR := unhide HRQ
          rw [List.drop_eq_getElem_cons i1, List.drop_eq_getElem_cons i2] at hRR
          have HS2 := hide hSM
          have HR2 := hide hRR
          have hp0 := hSM.p0
          have hp1 := hSM.ple
          have ha0 := hSM.a0
          have ha1 := hSM.a1
          have HRD := hide (And.intro (rfl : L.drop (j + 1) = L.drop (j + 1)) (rfl : y.dims.drop (j + 1) = y.dims.drop (j + 1)))
          clear hv2 hv3 hv2' hv3' hcl hcd hSM hRR HSM HRQ
          generalize L[j] = t at *
          generalize y.dims[j] = d at *
          by_cases g1 : t < 1
          · have q1 : decide (t < 1) = true := decide_eq_true g1
            have HRB := hide ((unhide HR2).trans (Ev.cellGo_out _ _ _ _ _ _ _ (.inl g1)))
            have HSB := hide ((unhide HMr).below (unhide HND).1)
            clear HR2 HS2 HRD
            go_wp2_with fail
            go_quiet (fail)
            have HAT := hide (at_any Ev.wSub j 14 (wr.drewN nq))
            have HSZ := hide (unhide HND).1.size
            go_wp2_with (refine (unhide HAT).mono ?_; rintro ev w8 ⟨q8, rfl, hq8, u0, u1, hb8⟩; have HM9 := hide ((unhide HSB).below (bthen (below_drewN (Below.refl _ _) nq) hb8)); have r0 := (unhide HM9).r0; have r1 := (unhide HM9).r1; have f0 := (unhide HM9).f0; have f1 := (unhide HM9).f1; have HT8 := hide (show Told (w.heap.size + 3) w8 (.agg #[.slice (some ⟨q8, 0, none⟩) 1 1, .int .i64 (14 : Nat)]) Ev.wSub j 14 from .inr ⟨by decide, q8, by have h9 := unhide HSZ; have : wr.heap.size ≤ q8 := hq8; omega, rfl, u0, u1⟩); clear hb8 u0 u1 hq8)
            refine bodyPost_ret (v := .tuple #[.int .i64 0, .agg #[.slice (some ⟨q8, 0, none⟩) 1 1, .int .i64 (14 : Nat)]]) (by simp [results, Tryd.results16, go_sem, r0, r1]) rfl ⟨_, by rw [unhide HRB]; rfl, ?_, ?_⟩
            · rw [unhide HRB]
              exact told_below (told_set (told_set (unhide HT8) ⟨w.heap.size + 2, 0, none⟩ (show w.heap.size + 2 < w.heap.size + 3 by omega) _) ⟨w.heap.size + 2, 1, none⟩ (show w.heap.size + 2 < w.heap.size + 3 by omega) _) (by omega)
            · exact ((unhide HM9).old.setCell (p := ⟨w.heap.size + 2, 0, none⟩) (show w.heap.size ≤ w.heap.size + 2 by omega) _).setCell (p := ⟨w.heap.size + 2, 1, none⟩) (show w.heap.size ≤ w.heap.size + 2 by omega) _
          · by_cases g2 : d < t
            · have q1 : decide (t < 1) = false := decide_eq_false g1
              have q2 : decide (d < t) = true := decide_eq_true g2
              have HRB := hide ((unhide HR2).trans (Ev.cellGo_out _ _ _ _ _ _ _ (.inr g2)))
              have HSB := hide ((unhide HMr).below (unhide HND).1)
              clear HR2 HS2 HRD
              go_wp2_with fail
              go_quiet (fail)
              have HAT := hide (at_any Ev.wSub j 14 (wr.drewN nq))
              have HSZ := hide (unhide HND).1.size
              go_wp2_with (refine (unhide HAT).mono ?_; rintro ev w8 ⟨q8, rfl, hq8, u0, u1, hb8⟩; have HM9 := hide ((unhide HSB).below (bthen (below_drewN (Below.refl _ _) nq) hb8)); have r0 := (unhide HM9).r0; have r1 := (unhide HM9).r1; have f0 := (unhide HM9).f0; have f1 := (unhide HM9).f1; have HT8 := hide (show Told (w.heap.size + 3) w8 (.agg #[.slice (some ⟨q8, 0, none⟩) 1 1, .int .i64 (14 : Nat)]) Ev.wSub j 14 from .inr ⟨by decide, q8, by have h9 := unhide HSZ; have : wr.heap.size ≤ q8 := hq8; omega, rfl, u0, u1⟩); clear hb8 u0 u1 hq8)
              refine bodyPost_ret (v := .tuple #[.int .i64 0, .agg #[.slice (some ⟨q8, 0, none⟩) 1 1, .int .i64 (14 : Nat)]]) (by simp [results, Tryd.results16, go_sem, r0, r1]) rfl ⟨_, by rw [unhide HRB]; rfl, ?_, ?_⟩
              · rw [unhide HRB]
                exact told_below (told_set (told_set (unhide HT8) ⟨w.heap.size + 2, 0, none⟩ (show w.heap.size + 2 < w.heap.size + 3 by omega) _) ⟨w.heap.size + 2, 1, none⟩ (show w.heap.size + 2 < w.heap.size + 3 by omega) _) (by omega)
              · exact ((unhide HM9).old.setCell (p := ⟨w.heap.size + 2, 0, none⟩) (show w.heap.size ≤ w.heap.size + 2 by omega) _).setCell (p := ⟨w.heap.size + 2, 1, none⟩) (show w.heap.size ≤ w.heap.size + 2 by omega) _
            · have q1 : decide (t < 1) = false := decide_eq_false g1
              have q2 : decide (d < t) = false := decide_eq_false g2
              have HRN := hide ((unhide HR2).trans (Ev.cellGo_in _ _ _ _ _ _ _ g1 g2))
              obtain ⟨hN, n1, n2, n3⟩ := (unhide HS2).next g1 g2
              have hq0 := hN.p0
              have hq1 := hN.ple
              have HSN := hide hN
              clear hN HS2 HR2
              go_wp2_with fail
              go_quiet (fail)
              go_wp2_with fail
              go_roundw
              case rel => exact ⟨j + 1, A + (t - 1) * P, P * d, by omega, by go_num, rfl, rfl, HSN, by rw [Int.add_assoc] at HRN; exact HRN, hide ⟨below_drewN (unhide HND).1 nq, (unhide HND).2⟩⟩
              case measure => simp [intOf]; omega
        · obtain rfl : j = i := by omega
          have hR0 : R = .ok (y.at_ + A) := by rw [unhide HRQ]; exact Ev.cellGo_end _ _ _ _ _ (.inl (List.drop_of_length_le (by omega)))
          have HR0 := hide hR0
          have ha0 := (unhide HSM).a0
          have ha1 := (unhide HSM).a1
          have hp1 := (unhide HSM).ple
          have HM9 := hide ((unhide HMr).below (unhide HND).1)
          have r0 := (unhide HM9).r0
          have r1 := (unhide HM9).r1
          have f0 := (unhide HM9).f0
          have f1 := (unhide HM9).f1
          have y2' := (unhide HM9).y2
          clear hR0
          go_wp2_with fail
          refine bodyPost_ret (v := .tuple #[.int .i64 (y.at_ + A), .agg #[.slice none 0 0, .int .i64 0]]) (by simp [results, Tryd.results16, go_sem, r0, r1]) rfl ⟨_, by rw [unhide HR0]; rfl, ?_, ?_⟩
          · rw [unhide HR0]; exact .inl ⟨rfl, rfl⟩
          · exact ((unhide HM9).old.setCell (p := ⟨w.heap.size + 2, 0, none⟩) (show w.heap.size ≤ w.heap.size + 2 by omega) _).setCell (p := ⟨w.heap.size + 2, 1, none⟩) (show w.heap.size ≤ w.heap.size + 2 by omega) _
end Go.Proofs.YtomnbidppkpfiaaDoor.Line
