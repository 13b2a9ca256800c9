/- The contract of the reference's Text, at any right tree. -/
import Derived.Test.YtepnafnljfjeoaaGreatDoorRfTx
namespace Go.Proofs.YtepnafnljfjeoaaGreatDoor.Line
open Go.ChangeShapes Go.WideShapes Go.ChangeAt Go.RowKit
open Ex (E)
set_option linter.unusedVariables false

/-- a box's row of parts, its first part -/
def R5 (p : Nat) (xs : Value) (b o : Nat) (y : E) (ys : Value) (W : World) : Prop := W.cell? ⟨p, 3, none⟩ = some xs ∧ W.cell? ⟨b, o, none⟩ = some (.int .i64 y.kind) ∧ W.cell? ⟨b, o + 1, none⟩ = some (.int .i64 y.n) ∧ W.cell? ⟨b, o + 2, none⟩ = some (.string ⟨y.name.toArray⟩) ∧ W.cell? ⟨b, o + 3, none⟩ = some ys
theorem R5.keep {p : Nat} {xs : Value} {b o : Nat} {y : E} {ys : Value} {W W' : World} (h : R5 p xs b o y ys W) (hb : Below W.heap.size W W') : R5 p xs b o y ys W' := by
  have hc : ∀ {b o : Nat} {v : Value}, W.cell? ⟨b, o, none⟩ = some v → W'.cell? ⟨b, o, none⟩ = some v := fun {b o v} h => (hb.cell (p := ⟨b, o, none⟩) (cell_lt h)).trans h
  obtain ⟨h0, h1, h2, h3, h4⟩ := h
  exact ⟨hc h0, hc h1, hc h2, hc h3, hc h4⟩
/-- three boxes -/
def R12 (p : Nat) (x : E) (xs : Value) (q : Nat) (y : E) (ys : Value) (r : Nat) (z : E) (zs : Value) (W : World) : Prop := W.cell? ⟨p, 0, none⟩ = some (.int .i64 x.kind) ∧ W.cell? ⟨p, 1, none⟩ = some (.int .i64 x.n) ∧ W.cell? ⟨p, 2, none⟩ = some (.string ⟨x.name.toArray⟩) ∧ W.cell? ⟨p, 3, none⟩ = some xs ∧ W.cell? ⟨q, 0, none⟩ = some (.int .i64 y.kind) ∧ W.cell? ⟨q, 1, none⟩ = some (.int .i64 y.n) ∧ W.cell? ⟨q, 2, none⟩ = some (.string ⟨y.name.toArray⟩) ∧ W.cell? ⟨q, 3, none⟩ = some ys ∧ W.cell? ⟨r, 0, none⟩ = some (.int .i64 z.kind) ∧ W.cell? ⟨r, 1, none⟩ = some (.int .i64 z.n) ∧ W.cell? ⟨r, 2, none⟩ = some (.string ⟨z.name.toArray⟩) ∧ W.cell? ⟨r, 3, none⟩ = some zs
theorem R12.keep {p : Nat} {x : E} {xs : Value} {q : Nat} {y : E} {ys : Value} {r : Nat} {z : E} {zs : Value} {W W' : World} (h : R12 p x xs q y ys r z zs W) (hb : Below W.heap.size W W') : R12 p x xs q y ys r z zs W' := by
  have hc : ∀ {b o : Nat} {v : Value}, W.cell? ⟨b, o, none⟩ = some v → W'.cell? ⟨b, o, none⟩ = some v := fun {b o v} h => (hb.cell (p := ⟨b, o, none⟩) (cell_lt h)).trans h
  obtain ⟨h0, h1, h2, h3, h4, h5, h6, h7, h8, h9, h10, h11⟩ := h
  exact ⟨hc h0, hc h1, hc h2, hc h3, hc h4, hc h5, hc h6, hc h7, hc h8, hc h9, hc h10, hc h11⟩
abbrev RTok (z : E) : Prop := ∀ (w : World) (sx : Value), Forest w (fun _ => True) z.a sx → Calls Tryz.prog 9 #[treeV z sx] w fun e w' => e = .returned (.string ⟨(textT z).toArray⟩) ∧ Below w.heap.size w w'
theorem textT_neg (x y : E) (hk : x.kind = 4) (ha : x.a = [y]) (hy : RX y) : textT x = [45] ++ rndT (textT y) ((y.kind == 5 || y.kind == 6) || (y.kind == 7 || y.kind == 8)) := by
  cases x with
  | mk k n nm a =>
    obtain rfl : k = 4 := hk
    obtain rfl : a = [y] := ha
    rw [textT, textL, textL, if_pos rfl]
    show [45] ++ ((([] : List UInt8) ++ ((if brkT 4 0 y.kind then [40] ++ textT y ++ [41] else textT y) ++ [])) ++ []) = _
    rw [List.nil_append, List.append_nil, List.append_nil]
    congr 1
    unfold rndT
    rcases hy.kinds with h | h | h | h | h | h | h | h <;> rw [h] <;> rfl
theorem textT_two (x y z : E) (hk : x.kind = 5 ∨ x.kind = 6 ∨ x.kind = 7 ∨ x.kind = 8) (ha : x.a = [y, z]) (hy : RX y) (hz : RX z) : textT x = rndT (textT y) ((x.kind == 7 || x.kind == 8) && (y.kind == 5 || y.kind == 6)) ++ betweenT x.kind ++ rndT (textT z) ((z.kind == 5 || z.kind == 6) || ((x.kind == 7 || x.kind == 8) && (z.kind == 7 || z.kind == 8) || z.kind == 4)) := by
  cases x with
  | mk k n nm a =>
    obtain rfl : a = [y, z] := ha
    have hk : k = 5 ∨ k = 6 ∨ k = 7 ∨ k = 8 := hk
    have h1 : aheadT k n nm = [] := by unfold aheadT; rw [if_neg (by omega), if_neg (by omega), if_neg (by omega), if_neg (by omega)]
    have h2 : behindT k = [] := by unfold behindT; rw [if_neg (by omega)]
    rw [textT, textL, textL, textL, h1, h2]
    show ([] : List UInt8) ++ ((([] : List UInt8) ++ ((if brkT k 0 y.kind then [40] ++ textT y ++ [41] else textT y) ++ (betweenT k ++ ((if brkT k 1 z.kind then [40] ++ textT z ++ [41] else textT z) ++ [])))) ++ []) = rndT (textT y) ((k == 7 || k == 8) && (y.kind == 5 || y.kind == 6)) ++ betweenT k ++ rndT (textT z) ((z.kind == 5 || z.kind == 6) || ((k == 7 || k == 8) && (z.kind == 7 || z.kind == 8) || z.kind == 4))
    have e1 : (if brkT k 0 y.kind then [40] ++ textT y ++ [41] else textT y) = rndT (textT y) ((k == 7 || k == 8) && (y.kind == 5 || y.kind == 6)) := by
      unfold rndT
      rcases hk with rfl | rfl | rfl | rfl <;> rcases hy.kinds with h | h | h | h | h | h | h | h <;> rw [h] <;> rfl
    have e2 : (if brkT k 1 z.kind then [40] ++ textT z ++ [41] else textT z) = rndT (textT z) ((z.kind == 5 || z.kind == 6) || ((k == 7 || k == 8) && (z.kind == 7 || z.kind == 8) || z.kind == 4)) := by
      unfold rndT
      rcases hk with rfl | rfl | rfl | rfl <;> rcases hz.kinds with h | h | h | h | h | h | h | h <;> rw [h] <;> rfl
    rw [e1, e2]
    simp
theorem rndT_len (s : List UInt8) (y : Bool) : (rndT s y).length ≤ s.length + 2 := by
  cases y with
  | true => show ([40] ++ s ++ [41]).length ≤ _; simp
  | false => exact Nat.le_add_right _ _
set_option maxHeartbeats 8000000 in
set_option maxRecDepth 100000 in
theorem rtext_neg (x y : E) (hk : x.kind = 4) (ha : x.a = [y]) (hy : RX y) (hq : RTok y) (hl : (textT y).length ≤ 100000) : RTok x := by
  intro w sx hx
  have HT := hide (textT_neg x y hk ha hy)
  have HX := hide (hx.old (alloc_below w (.cells #[.int .i64 x.kind, .int .i64 x.n, .string ⟨x.name.toArray⟩, sx] ET)))
  have HBX := hide (bx_new w x sx ET)
  have AL := hide (alloc_below w (.cells #[.int .i64 x.kind, .int .i64 x.n, .string ⟨x.name.toArray⟩, sx] ET))
  have hx1 : x.a.length = 1 := by rw [ha]; rfl
  have hz0 : x.a[0]'(by omega) = y := by simp [ha]
  obtain ⟨xb, xo, xc, sl, hv, hc1, hc2, hcl, hfs⟩ := (unhide HX).at (by omega)
  subst hv
  obtain ⟨c0, c1, c2, c3⟩ := hcl 0 (by omega)
  rw [hz0] at c0 c1 c2
  have hf0 := hfs 0 (by omega)
  rw [hz0] at hf0
  rw [Nat.zero_mul, Nat.add_zero] at c0 c1 c2 c3
  obtain ⟨ya, yc, hys⟩ := hf0.shape
  rw [hys] at hf0 c3
  have HFI := hide hf0
  have HK := hide hk
  have HQ := hide (show (∀ (w : World) (sx : Value), Forest w (fun _ => True) y.a sx → Calls Tryz.prog 9 #[treeV y sx] w fun e w' => e = .returned (.string ⟨(textT y).toArray⟩) ∧ Below w.heap.size w w') from hq)
  have HL := hide (rndT_len (textT y))
  clear hx hk hq hz0 hcl hfs hf0 ha hy hys HX
  generalize textT x = TX at *
  generalize textT y = TY at *
  generalize x.a.length = xn at *
  generalize y.a.length = yn at *
  have hlt : 0 < xn := by omega
  have hlt2 : (0 : Int) < xn := by omega
  clear hx1
  go_enter Tryz.func9, Tryz.ntmps9
  go_upto_region 1 with fail
  generalize (w.alloc (.cells #[.int .i64 x.kind, .int .i64 x.n, .string ⟨x.name.toArray⟩, .slice (some ⟨xb, xo, none⟩) xn xc] ET)) = W at *
  have e0 : W.cell? ⟨w.heap.size, 0, none⟩ = some (.int .i64 4) := by rw [(unhide HBX).c0, unhide HK]
  go_upto_region 18 with fail
  clear e0
  have hS0 : R5 w.heap.size (.slice (some ⟨xb, xo, none⟩) xn xc) xb xo y (.slice ya yn yc) W := ⟨(unhide HBX).c3, c0, c1, c2, c3⟩
  clear c0 c1 c2 c3
  have HSM := hide (fun V => sumK_any y ya yn yc V)
  have HPM := hide (fun V => prodK_any y ya yn yc V)
  generalize (y.kind == 5 || y.kind == 6) = sA at *
  generalize (y.kind == 7 || y.kind == 8) = pA at *
  have HD := hide (below_drewN (Below.refl W.heap.size W) 1)
  cases sA with
  | true =>
    have hlr : (rndT TY true).length ≤ 200000 := by have := unhide HL true; omega
    have hcc : (⟨#[45]⟩ : ByteArray) ++ ⟨(rndT TY true).toArray⟩ = ⟨([45] ++ rndT TY true).toArray⟩ := cat2 [45] _
    have hnn : ¬ 9223372036854775807 < 1 + (rndT TY true).length := by omega
    refine wp_regionE (R5 w.heap.size (.slice (some ⟨xb, xo, none⟩) xn xc) xb xo y (.slice ya yn yc)) (fun j => decide (j < 20)) (by kernel_rfl) (hS0.keep (unhide HD)) (fun hS => ?_)
    refine anyE_take 0 (v := ?_) rfl (by kernel_rfl) (by kernel_rfl) (by kernel_rfl) (by kernel_rfl) (fun _ _ _ h => h) hS (Or.inl ⟨by rfl, ?_⟩) ?_
    rotate_left
    · intro w' hS'
      obtain ⟨e0, e1, e2, e3, e4⟩ := hS'
      go_simp
      try with_reducible rfl
    try simp only [List.getElem_toArray, List.getElem_cons_zero, Act.put, List.setIfInBounds_toArray, List.set_cons_zero, List.set_cons_succ]
    refine anyE_take 1 (v := ?_) rfl (by kernel_rfl) (by kernel_rfl) (by kernel_rfl) (by kernel_rfl) (fun _ _ _ h => h) hS (Or.inl ⟨by rfl, ?_⟩) ?_
    rotate_left
    · intro w' hS'
      obtain ⟨e0, e1, e2, e3, e4⟩ := hS'
      go_simp
      try with_reducible rfl
    try simp only [List.getElem_toArray, List.getElem_cons_succ, List.getElem_cons_zero, Act.put, List.setIfInBounds_toArray, List.set_cons_zero, List.set_cons_succ]
    refine anyE_take 2 (v := ?_) rfl (by kernel_rfl) (by kernel_rfl) (by kernel_rfl) (by kernel_rfl) (fun _ _ _ h => h) hS (Or.inl ⟨by rfl, ?_⟩) ?_
    rotate_left
    · intro w' hS'
      obtain ⟨e0, e1, e2, e3, e4⟩ := hS'
      go_simp
      try with_reducible rfl
    try simp only [List.getElem_toArray, List.getElem_cons_succ, List.getElem_cons_zero, Act.put, List.setIfInBounds_toArray, List.set_cons_zero, List.set_cons_succ]
    refine anyE_take 3 (v := ?_) rfl (by kernel_rfl) (by kernel_rfl) (by kernel_rfl) (by kernel_rfl) (fun _ _ _ h => h) hS (Or.inl ⟨by rfl, ?_⟩) ?_
    rotate_left
    · intro w' hS'
      obtain ⟨e0, e1, e2, e3, e4⟩ := hS'
      go_simp
      try with_reducible rfl
    try simp only [List.getElem_toArray, List.getElem_cons_succ, List.getElem_cons_zero, Act.put, List.setIfInBounds_toArray, List.set_cons_zero, List.set_cons_succ]
    refine anyE_take 5 (v := ?_) rfl (by kernel_rfl) (by kernel_rfl) (by kernel_rfl) (by kernel_rfl) (fun _ _ _ h => h) hS (Or.inl ⟨by rfl, ?_⟩) ?_
    rotate_left
    · intro w' hS'
      obtain ⟨e0, e1, e2, e3, e4⟩ := hS'
      go_simp
      try with_reducible rfl
    try simp only [List.getElem_toArray, List.getElem_cons_succ, List.getElem_cons_zero, Act.put, List.setIfInBounds_toArray, List.set_cons_zero, List.set_cons_succ]
    refine anyE_take 6 (v := ?_) rfl (by kernel_rfl) (by kernel_rfl) (by kernel_rfl) (by kernel_rfl) (fun _ _ _ h => h) hS (Or.inl ⟨by rfl, ?_⟩) ?_
    rotate_left
    · intro w' hS'
      obtain ⟨e0, e1, e2, e3, e4⟩ := hS'
      go_simp
      try with_reducible rfl
    try simp only [List.getElem_toArray, List.getElem_cons_succ, List.getElem_cons_zero, Act.put, List.setIfInBounds_toArray, List.set_cons_zero, List.set_cons_succ]
    refine anyE_take 7 (v := ?_) rfl (by kernel_rfl) (by kernel_rfl) (by kernel_rfl) (by kernel_rfl) (fun _ _ _ h => h) hS (Or.inl ⟨by rfl, ?_⟩) ?_
    rotate_left
    · intro w' hS'
      obtain ⟨e0, e1, e2, e3, e4⟩ := hS'
      go_simp
      try with_reducible rfl
    try simp only [List.getElem_toArray, List.getElem_cons_succ, List.getElem_cons_zero, Act.put, List.setIfInBounds_toArray, List.set_cons_zero, List.set_cons_succ]
    refine anyE_take 8 (v := ?_) rfl (by kernel_rfl) (by kernel_rfl) (by kernel_rfl) (by kernel_rfl) (fun _ _ _ h => h) hS (Or.inl ⟨by rfl, ?_⟩) ?_
    rotate_left
    · intro w' hS'
      obtain ⟨e0, e1, e2, e3, e4⟩ := hS'
      go_simp
      try with_reducible rfl
    try simp only [List.getElem_toArray, List.getElem_cons_succ, List.getElem_cons_zero, Act.put, List.setIfInBounds_toArray, List.set_cons_zero, List.set_cons_succ]
    refine anyE_ready [4] (by kernel_rfl) (by simp) (ReadyE.cons rfl (fun K' hK => ?_) ReadyE.nil)
    go_simp
    go_at_call 9
    refine (unhide HQ W.drew _ ((unhide HFI).old (unhide HD))).mono ?_
    rintro ev V1 ⟨rfl, hbc⟩
    dsimp only
    try go_simp
    refine hK _ _ (fun _ => R5.keep hS hbc) ?_
    replace hS := R5.keep hS hbc
    clear hK K'
    have HB1 := hide (bthen (unhide HD) hbc)
    clear hbc
    try simp only [List.getElem_toArray, List.getElem_cons_succ, List.getElem_cons_zero, Act.put, List.setIfInBounds_toArray, List.set_cons_zero, List.set_cons_succ]
    refine anyE_ready [9] (by kernel_rfl) (by simp) (ReadyE.cons rfl (fun K' hK => ?_) ReadyE.nil)
    go_simp
    go_at_call 31
    refine (unhide HSM V1).mono ?_
    rintro ev V2 ⟨rfl, hbc⟩
    dsimp only
    try go_simp
    refine hK _ _ (fun _ => R5.keep hS hbc) ?_
    replace hS := R5.keep hS hbc
    clear hK K'
    have HB2 := hide (bthen (unhide HB1) hbc)
    clear hbc
    try simp only [List.getElem_toArray, List.getElem_cons_succ, List.getElem_cons_zero, Act.put, List.setIfInBounds_toArray, List.set_cons_zero, List.set_cons_succ]
    refine anyE_take 10 (v := ?_) rfl (by kernel_rfl) (by kernel_rfl) (by kernel_rfl) (by kernel_rfl) (fun _ _ _ h => h) hS (Or.inl ⟨by rfl, ?_⟩) ?_
    rotate_left
    · intro w' hS'
      obtain ⟨e0, e1, e2, e3, e4⟩ := hS'
      go_simp
      try with_reducible rfl
    try simp only [List.getElem_toArray, List.getElem_cons_succ, List.getElem_cons_zero, Act.put, List.setIfInBounds_toArray, List.set_cons_zero, List.set_cons_succ]
    refine anyE_take 11 (v := undef) rfl (by kernel_rfl) (by kernel_rfl) (by kernel_rfl) (by kernel_rfl) (fun _ _ _ h => h) hS (Or.inr ⟨by rfl, rfl⟩) ?_
    try simp only [List.getElem_toArray, List.getElem_cons_succ, List.getElem_cons_zero, Act.put, List.setIfInBounds_toArray, List.set_cons_zero, List.set_cons_succ]
    refine anyE_take 12 (v := undef) rfl (by kernel_rfl) (by kernel_rfl) (by kernel_rfl) (by kernel_rfl) (fun _ _ _ h => h) hS (Or.inr ⟨by rfl, rfl⟩) ?_
    try simp only [List.getElem_toArray, List.getElem_cons_succ, List.getElem_cons_zero, Act.put, List.setIfInBounds_toArray, List.set_cons_zero, List.set_cons_succ]
    refine anyE_take 13 (v := undef) rfl (by kernel_rfl) (by kernel_rfl) (by kernel_rfl) (by kernel_rfl) (fun _ _ _ h => h) hS (Or.inr ⟨by rfl, rfl⟩) ?_
    try simp only [List.getElem_toArray, List.getElem_cons_succ, List.getElem_cons_zero, Act.put, List.setIfInBounds_toArray, List.set_cons_zero, List.set_cons_succ]
    refine anyE_take 14 (v := undef) rfl (by kernel_rfl) (by kernel_rfl) (by kernel_rfl) (by kernel_rfl) (fun _ _ _ h => h) hS (Or.inr ⟨by rfl, rfl⟩) ?_
    try simp only [List.getElem_toArray, List.getElem_cons_succ, List.getElem_cons_zero, Act.put, List.setIfInBounds_toArray, List.set_cons_zero, List.set_cons_succ]
    refine anyE_take 15 (v := undef) rfl (by kernel_rfl) (by kernel_rfl) (by kernel_rfl) (by kernel_rfl) (fun _ _ _ h => h) hS (Or.inr ⟨by rfl, rfl⟩) ?_
    try simp only [List.getElem_toArray, List.getElem_cons_succ, List.getElem_cons_zero, Act.put, List.setIfInBounds_toArray, List.set_cons_zero, List.set_cons_succ]
    refine anyE_take 16 (v := ?_) rfl (by kernel_rfl) (by kernel_rfl) (by kernel_rfl) (by kernel_rfl) (fun _ _ _ h => h) hS (Or.inl ⟨by rfl, ?_⟩) ?_
    rotate_left
    · intro w' hS'
      obtain ⟨e0, e1, e2, e3, e4⟩ := hS'
      go_simp
      try with_reducible rfl
    try simp only [List.getElem_toArray, List.getElem_cons_succ, List.getElem_cons_zero, Act.put, List.setIfInBounds_toArray, List.set_cons_zero, List.set_cons_succ]
    refine anyE_ready [17] (by kernel_rfl) (by simp) (ReadyE.cons rfl (fun K' hK => ?_) ReadyE.nil)
    go_simp
    go_at_call 29
    refine (round_any TY true (by omega) V2).mono ?_
    rintro ev V4 ⟨rfl, hbc⟩
    dsimp only
    try go_simp
    refine hK _ _ (fun _ => R5.keep hS hbc) ?_
    replace hS := R5.keep hS hbc
    clear hK K'
    have HB4 := hide (bthen (unhide HB2) hbc)
    clear hbc
    try simp only [List.getElem_toArray, List.getElem_cons_succ, List.getElem_cons_zero, Act.put, List.setIfInBounds_toArray, List.set_cons_zero, List.set_cons_succ]
    refine anyE_take 18 (v := ?_) rfl (by kernel_rfl) (by kernel_rfl) (by kernel_rfl) (by kernel_rfl) (fun _ _ _ h => h) hS (Or.inl ⟨by rfl, ?_⟩) ?_
    rotate_left
    · intro w' hS'
      obtain ⟨e0, e1, e2, e3, e4⟩ := hS'
      go_simp
      try with_reducible rfl
    try simp only [List.getElem_toArray, List.getElem_cons_succ, List.getElem_cons_zero, Act.put, List.setIfInBounds_toArray, List.set_cons_zero, List.set_cons_succ]
    refine anyE_take 19 (v := ?_) rfl (by kernel_rfl) (by kernel_rfl) (by kernel_rfl) (by kernel_rfl) (fun _ _ _ h => h) hS (Or.inl ⟨by rfl, ?_⟩) ?_
    rotate_left
    · intro w' hS'
      obtain ⟨e0, e1, e2, e3, e4⟩ := hS'
      go_simp
      try with_reducible rfl
    try simp only [List.getElem_toArray, List.getElem_cons_succ, List.getElem_cons_zero, Act.put, List.setIfInBounds_toArray, List.set_cons_zero, List.set_cons_succ]
    refine anyE_done (by kernel_rfl) ?_ _
    clear hS
    go_wp2_with fail
    go_ret
    exact ⟨by rw [unhide HT]; rfl, bthen (unhide AL) (unhide HB4)⟩
  | false =>
    have hlr : (rndT TY pA).length ≤ 200000 := by have := unhide HL pA; omega
    have hcc : (⟨#[45]⟩ : ByteArray) ++ ⟨(rndT TY pA).toArray⟩ = ⟨([45] ++ rndT TY pA).toArray⟩ := cat2 [45] _
    have hnn : ¬ 9223372036854775807 < 1 + (rndT TY pA).length := by omega
    refine wp_regionE (R5 w.heap.size (.slice (some ⟨xb, xo, none⟩) xn xc) xb xo y (.slice ya yn yc)) (fun j => decide (j < 20)) (by kernel_rfl) (hS0.keep (unhide HD)) (fun hS => ?_)
    refine anyE_take 0 (v := ?_) rfl (by kernel_rfl) (by kernel_rfl) (by kernel_rfl) (by kernel_rfl) (fun _ _ _ h => h) hS (Or.inl ⟨by rfl, ?_⟩) ?_
    rotate_left
    · intro w' hS'
      obtain ⟨e0, e1, e2, e3, e4⟩ := hS'
      go_simp
      try with_reducible rfl
    try simp only [List.getElem_toArray, List.getElem_cons_zero, Act.put, List.setIfInBounds_toArray, List.set_cons_zero, List.set_cons_succ]
    refine anyE_take 1 (v := ?_) rfl (by kernel_rfl) (by kernel_rfl) (by kernel_rfl) (by kernel_rfl) (fun _ _ _ h => h) hS (Or.inl ⟨by rfl, ?_⟩) ?_
    rotate_left
    · intro w' hS'
      obtain ⟨e0, e1, e2, e3, e4⟩ := hS'
      go_simp
      try with_reducible rfl
    try simp only [List.getElem_toArray, List.getElem_cons_succ, List.getElem_cons_zero, Act.put, List.setIfInBounds_toArray, List.set_cons_zero, List.set_cons_succ]
    refine anyE_take 2 (v := ?_) rfl (by kernel_rfl) (by kernel_rfl) (by kernel_rfl) (by kernel_rfl) (fun _ _ _ h => h) hS (Or.inl ⟨by rfl, ?_⟩) ?_
    rotate_left
    · intro w' hS'
      obtain ⟨e0, e1, e2, e3, e4⟩ := hS'
      go_simp
      try with_reducible rfl
    try simp only [List.getElem_toArray, List.getElem_cons_succ, List.getElem_cons_zero, Act.put, List.setIfInBounds_toArray, List.set_cons_zero, List.set_cons_succ]
    refine anyE_take 3 (v := ?_) rfl (by kernel_rfl) (by kernel_rfl) (by kernel_rfl) (by kernel_rfl) (fun _ _ _ h => h) hS (Or.inl ⟨by rfl, ?_⟩) ?_
    rotate_left
    · intro w' hS'
      obtain ⟨e0, e1, e2, e3, e4⟩ := hS'
      go_simp
      try with_reducible rfl
    try simp only [List.getElem_toArray, List.getElem_cons_succ, List.getElem_cons_zero, Act.put, List.setIfInBounds_toArray, List.set_cons_zero, List.set_cons_succ]
    refine anyE_take 5 (v := ?_) rfl (by kernel_rfl) (by kernel_rfl) (by kernel_rfl) (by kernel_rfl) (fun _ _ _ h => h) hS (Or.inl ⟨by rfl, ?_⟩) ?_
    rotate_left
    · intro w' hS'
      obtain ⟨e0, e1, e2, e3, e4⟩ := hS'
      go_simp
      try with_reducible rfl
    try simp only [List.getElem_toArray, List.getElem_cons_succ, List.getElem_cons_zero, Act.put, List.setIfInBounds_toArray, List.set_cons_zero, List.set_cons_succ]
    refine anyE_take 6 (v := ?_) rfl (by kernel_rfl) (by kernel_rfl) (by kernel_rfl) (by kernel_rfl) (fun _ _ _ h => h) hS (Or.inl ⟨by rfl, ?_⟩) ?_
    rotate_left
    · intro w' hS'
      obtain ⟨e0, e1, e2, e3, e4⟩ := hS'
      go_simp
      try with_reducible rfl
    try simp only [List.getElem_toArray, List.getElem_cons_succ, List.getElem_cons_zero, Act.put, List.setIfInBounds_toArray, List.set_cons_zero, List.set_cons_succ]
    refine anyE_take 7 (v := ?_) rfl (by kernel_rfl) (by kernel_rfl) (by kernel_rfl) (by kernel_rfl) (fun _ _ _ h => h) hS (Or.inl ⟨by rfl, ?_⟩) ?_
    rotate_left
    · intro w' hS'
      obtain ⟨e0, e1, e2, e3, e4⟩ := hS'
      go_simp
      try with_reducible rfl
    try simp only [List.getElem_toArray, List.getElem_cons_succ, List.getElem_cons_zero, Act.put, List.setIfInBounds_toArray, List.set_cons_zero, List.set_cons_succ]
    refine anyE_take 8 (v := ?_) rfl (by kernel_rfl) (by kernel_rfl) (by kernel_rfl) (by kernel_rfl) (fun _ _ _ h => h) hS (Or.inl ⟨by rfl, ?_⟩) ?_
    rotate_left
    · intro w' hS'
      obtain ⟨e0, e1, e2, e3, e4⟩ := hS'
      go_simp
      try with_reducible rfl
    try simp only [List.getElem_toArray, List.getElem_cons_succ, List.getElem_cons_zero, Act.put, List.setIfInBounds_toArray, List.set_cons_zero, List.set_cons_succ]
    refine anyE_ready [4] (by kernel_rfl) (by simp) (ReadyE.cons rfl (fun K' hK => ?_) ReadyE.nil)
    go_simp
    go_at_call 9
    refine (unhide HQ W.drew _ ((unhide HFI).old (unhide HD))).mono ?_
    rintro ev V1 ⟨rfl, hbc⟩
    dsimp only
    try go_simp
    refine hK _ _ (fun _ => R5.keep hS hbc) ?_
    replace hS := R5.keep hS hbc
    clear hK K'
    have HB1 := hide (bthen (unhide HD) hbc)
    clear hbc
    try simp only [List.getElem_toArray, List.getElem_cons_succ, List.getElem_cons_zero, Act.put, List.setIfInBounds_toArray, List.set_cons_zero, List.set_cons_succ]
    refine anyE_ready [9] (by kernel_rfl) (by simp) (ReadyE.cons rfl (fun K' hK => ?_) ReadyE.nil)
    go_simp
    go_at_call 31
    refine (unhide HSM V1).mono ?_
    rintro ev V2 ⟨rfl, hbc⟩
    dsimp only
    try go_simp
    refine hK _ _ (fun _ => R5.keep hS hbc) ?_
    replace hS := R5.keep hS hbc
    clear hK K'
    have HB2 := hide (bthen (unhide HB1) hbc)
    clear hbc
    try simp only [List.getElem_toArray, List.getElem_cons_succ, List.getElem_cons_zero, Act.put, List.setIfInBounds_toArray, List.set_cons_zero, List.set_cons_succ]
    refine anyE_take 10 (v := ?_) rfl (by kernel_rfl) (by kernel_rfl) (by kernel_rfl) (by kernel_rfl) (fun _ _ _ h => h) hS (Or.inl ⟨by rfl, ?_⟩) ?_
    rotate_left
    · intro w' hS'
      obtain ⟨e0, e1, e2, e3, e4⟩ := hS'
      go_simp
      try with_reducible rfl
    try simp only [List.getElem_toArray, List.getElem_cons_succ, List.getElem_cons_zero, Act.put, List.setIfInBounds_toArray, List.set_cons_zero, List.set_cons_succ]
    refine anyE_take 11 (v := ?_) rfl (by kernel_rfl) (by kernel_rfl) (by kernel_rfl) (by kernel_rfl) (fun _ _ _ h => h) hS (Or.inl ⟨by rfl, ?_⟩) ?_
    rotate_left
    · intro w' hS'
      obtain ⟨e0, e1, e2, e3, e4⟩ := hS'
      go_simp
      try with_reducible rfl
    try simp only [List.getElem_toArray, List.getElem_cons_succ, List.getElem_cons_zero, Act.put, List.setIfInBounds_toArray, List.set_cons_zero, List.set_cons_succ]
    refine anyE_take 12 (v := ?_) rfl (by kernel_rfl) (by kernel_rfl) (by kernel_rfl) (by kernel_rfl) (fun _ _ _ h => h) hS (Or.inl ⟨by rfl, ?_⟩) ?_
    rotate_left
    · intro w' hS'
      obtain ⟨e0, e1, e2, e3, e4⟩ := hS'
      go_simp
      try with_reducible rfl
    try simp only [List.getElem_toArray, List.getElem_cons_succ, List.getElem_cons_zero, Act.put, List.setIfInBounds_toArray, List.set_cons_zero, List.set_cons_succ]
    refine anyE_take 13 (v := ?_) rfl (by kernel_rfl) (by kernel_rfl) (by kernel_rfl) (by kernel_rfl) (fun _ _ _ h => h) hS (Or.inl ⟨by rfl, ?_⟩) ?_
    rotate_left
    · intro w' hS'
      obtain ⟨e0, e1, e2, e3, e4⟩ := hS'
      go_simp
      try with_reducible rfl
    try simp only [List.getElem_toArray, List.getElem_cons_succ, List.getElem_cons_zero, Act.put, List.setIfInBounds_toArray, List.set_cons_zero, List.set_cons_succ]
    refine anyE_take 14 (v := ?_) rfl (by kernel_rfl) (by kernel_rfl) (by kernel_rfl) (by kernel_rfl) (fun _ _ _ h => h) hS (Or.inl ⟨by rfl, ?_⟩) ?_
    rotate_left
    · intro w' hS'
      obtain ⟨e0, e1, e2, e3, e4⟩ := hS'
      go_simp
      try with_reducible rfl
    try simp only [List.getElem_toArray, List.getElem_cons_succ, List.getElem_cons_zero, Act.put, List.setIfInBounds_toArray, List.set_cons_zero, List.set_cons_succ]
    refine anyE_ready [15] (by kernel_rfl) (by simp) (ReadyE.cons rfl (fun K' hK => ?_) ReadyE.nil)
    go_simp
    go_at_call 32
    refine (unhide HPM V2).mono ?_
    rintro ev V3 ⟨rfl, hbc⟩
    dsimp only
    try go_simp
    refine hK _ _ (fun _ => R5.keep hS hbc) ?_
    replace hS := R5.keep hS hbc
    clear hK K'
    have HB3 := hide (bthen (unhide HB2) hbc)
    clear hbc
    try simp only [List.getElem_toArray, List.getElem_cons_succ, List.getElem_cons_zero, Act.put, List.setIfInBounds_toArray, List.set_cons_zero, List.set_cons_succ]
    refine anyE_take 16 (v := ?_) rfl (by kernel_rfl) (by kernel_rfl) (by kernel_rfl) (by kernel_rfl) (fun _ _ _ h => h) hS (Or.inl ⟨by rfl, ?_⟩) ?_
    rotate_left
    · intro w' hS'
      obtain ⟨e0, e1, e2, e3, e4⟩ := hS'
      go_simp
      try with_reducible rfl
    try simp only [List.getElem_toArray, List.getElem_cons_succ, List.getElem_cons_zero, Act.put, List.setIfInBounds_toArray, List.set_cons_zero, List.set_cons_succ]
    refine anyE_ready [17] (by kernel_rfl) (by simp) (ReadyE.cons rfl (fun K' hK => ?_) ReadyE.nil)
    go_simp
    go_at_call 29
    refine (round_any TY pA (by omega) V3).mono ?_
    rintro ev V4 ⟨rfl, hbc⟩
    dsimp only
    try go_simp
    refine hK _ _ (fun _ => R5.keep hS hbc) ?_
    replace hS := R5.keep hS hbc
    clear hK K'
    have HB4 := hide (bthen (unhide HB3) hbc)
    clear hbc
    try simp only [List.getElem_toArray, List.getElem_cons_succ, List.getElem_cons_zero, Act.put, List.setIfInBounds_toArray, List.set_cons_zero, List.set_cons_succ]
    refine anyE_take 18 (v := ?_) rfl (by kernel_rfl) (by kernel_rfl) (by kernel_rfl) (by kernel_rfl) (fun _ _ _ h => h) hS (Or.inl ⟨by rfl, ?_⟩) ?_
    rotate_left
    · intro w' hS'
      obtain ⟨e0, e1, e2, e3, e4⟩ := hS'
      go_simp
      try with_reducible rfl
    try simp only [List.getElem_toArray, List.getElem_cons_succ, List.getElem_cons_zero, Act.put, List.setIfInBounds_toArray, List.set_cons_zero, List.set_cons_succ]
    refine anyE_take 19 (v := ?_) rfl (by kernel_rfl) (by kernel_rfl) (by kernel_rfl) (by kernel_rfl) (fun _ _ _ h => h) hS (Or.inl ⟨by rfl, ?_⟩) ?_
    rotate_left
    · intro w' hS'
      obtain ⟨e0, e1, e2, e3, e4⟩ := hS'
      go_simp
      try with_reducible rfl
    try simp only [List.getElem_toArray, List.getElem_cons_succ, List.getElem_cons_zero, Act.put, List.setIfInBounds_toArray, List.set_cons_zero, List.set_cons_succ]
    refine anyE_done (by kernel_rfl) ?_ _
    clear hS
    go_wp2_with fail
    go_ret
    exact ⟨by rw [unhide HT]; rfl, bthen (unhide AL) (unhide HB4)⟩
end Go.Proofs.YtepnafnljfjeoaaGreatDoor.Line
