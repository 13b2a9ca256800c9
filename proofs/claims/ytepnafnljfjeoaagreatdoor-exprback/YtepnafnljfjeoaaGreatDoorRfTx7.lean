/- The contract of the reference's Text at a tree of kind 7. -/
import Derived.Test.YtepnafnljfjeoaaGreatDoorRfTxA
namespace Go.Proofs.YtepnafnljfjeoaaGreatDoor.Line
open Go.ChangeShapes Go.WideShapes Go.ChangeAt Go.RowKit
open Ex (E)
set_option linter.unusedVariables false

set_option maxHeartbeats 16000000 in
set_option maxRecDepth 100000 in
theorem rtext_7 (x y z : E) (hk : x.kind = 7) (ha : x.a = [y, z]) (hy : RX y) (hz : RX z) (hq : RTok y) (hq2 : RTok z) (hl : (textT y).length ≤ 100000) (hl2 : (textT z).length ≤ 100000) : RTok x := by
  intro w sx hx
  have HT := hide (textT_two x y z (by omega) ha hy hz)
  have HX := hide (hx.old (alloc_below w (.cells #[.int .i64 x.kind, .int .i64 x.n, .string ⟨x.name.toArray⟩, sx] ET)))
  have HBX := hide (bx_new w x sx ET)
  have AL := hide (alloc_below w (.cells #[.int .i64 x.kind, .int .i64 x.n, .string ⟨x.name.toArray⟩, sx] ET))
  have hx1 : x.a.length = 2 := by rw [ha]; rfl
  have hz0 : x.a[0]'(by omega) = y := by simp [ha]
  have hz1 : x.a[1]'(by omega) = z := by simp [ha]
  obtain ⟨xb, xo, xc, sl, hv, hc1, hc2, hcl, hfs⟩ := (unhide HX).at (by omega)
  subst hv
  obtain ⟨c0, c1, c2, c3⟩ := hcl 0 (by omega)
  obtain ⟨c4, c5, c6, c7⟩ := hcl 1 (by omega)
  rw [hz0] at c0 c1 c2
  rw [hz1] at c4 c5 c6
  have hf0 := hfs 0 (by omega)
  have hf1 := hfs 1 (by omega)
  rw [hz0] at hf0
  rw [hz1] at hf1
  rw [Nat.zero_mul, Nat.add_zero] at c0 c1 c2 c3
  rw [Nat.one_mul] at c4 c5 c6 c7
  obtain ⟨ya, yc, hys⟩ := hf0.shape
  obtain ⟨za, zc, hzs⟩ := hf1.shape
  rw [hys] at hf0 c3
  rw [hzs] at hf1 c7
  have HFI := hide hf0
  have HFJ := hide hf1
  have HQ := hide (show (∀ (w : World) (sx : Value), Forest w (fun _ => True) y.a sx → Calls Tryz.prog 9 #[treeV y sx] w fun e w' => e = .returned (.string ⟨(textT y).toArray⟩) ∧ Below w.heap.size w w') from hq)
  have HQ2 := hide (show (∀ (w : World) (sx : Value), Forest w (fun _ => True) z.a sx → Calls Tryz.prog 9 #[treeV z sx] w fun e w' => e = .returned (.string ⟨(textT z).toArray⟩) ∧ Below w.heap.size w w') from hq2)
  have HL := hide (rndT_len (textT y))
  have HL2 := hide (rndT_len (textT z))
  have HKK := hide hk
  clear hx hk hq hq2 hz0 hz1 hcl hfs hf0 hf1 ha hy hz hys hzs HX
  generalize textT x = TX at *
  generalize textT y = TY at *
  generalize textT z = TZ at *
  generalize x.a.length = xn at *
  generalize y.a.length = yn at *
  generalize z.a.length = zn at *
  have hlt : 0 < xn := by omega
  have hlt2 : (0 : Int) < xn := by omega
  have hlt3 : 1 < xn := by omega
  have hlt4 : (1 : Int) < xn := by omega
  clear hx1
  go_enter Tryz.func9, Tryz.ntmps9
  go_upto_region 1 with fail
  generalize (w.alloc (.cells #[.int .i64 x.kind, .int .i64 x.n, .string ⟨x.name.toArray⟩, .slice (some ⟨xb, xo, none⟩) xn xc] ET)) = W at *
  have al1 := alloc_below W (.cells #[.int .i64 y.kind, .int .i64 y.n, .string ⟨y.name.toArray⟩, .slice ya yn yc] ET)
  have al2 := alloc_below (W.alloc (.cells #[.int .i64 y.kind, .int .i64 y.n, .string ⟨y.name.toArray⟩, .slice ya yn yc] ET)) (.cells #[.int .i64 z.kind, .int .i64 z.n, .string ⟨z.name.toArray⟩, .slice za zn zc] ET)
  have z1 : (W.alloc (.cells #[.int .i64 y.kind, .int .i64 y.n, .string ⟨y.name.toArray⟩, .slice ya yn yc] ET)).heap.size = W.heap.size + 1 := by simp
  have b1 := (bx_new W y (.slice ya yn yc) ET).keep (al2.block _ (by simp)) al2.size
  have b2 := bx_new (W.alloc (.cells #[.int .i64 y.kind, .int .i64 y.n, .string ⟨y.name.toArray⟩, .slice ya yn yc] ET)) z (.slice za zn zc) ET
  rw [z1] at b2
  have b0 := (unhide HBX).keep ((bthen al1 al2).block _ (unhide HBX).lt) (bthen al1 al2).size
  have HS0 : Hid (R12 w.heap.size x (.slice (some ⟨xb, xo, none⟩) xn xc) W.heap.size y (.slice ya yn yc) (W.heap.size + 1) z (.slice za zn zc) ((W.alloc (.cells #[.int .i64 y.kind, .int .i64 y.n, .string ⟨y.name.toArray⟩, .slice ya yn yc] ET)).alloc (.cells #[.int .i64 z.kind, .int .i64 z.n, .string ⟨z.name.toArray⟩, .slice za zn zc] ET))) := hide ⟨b0.c0, b0.c1, b0.c2, b0.c3, b1.c0, b1.c1, b1.c2, b1.c3, b2.c0, b2.c1, b2.c2, b2.c3⟩
  have HAA := hide (bthen al1 al2)
  have HFI2 := hide ((unhide HFI).old (unhide HAA))
  have HFJ2 := hide ((unhide HFJ).old (unhide HAA))
  have HAL2 := hide (bthen (unhide AL) (unhide HAA))
  clear HFI HFJ HAA
  have e0' := (unhide HBX).c0
  have e3 := (unhide HBX).c3
  have hw1 : w.heap.size < W.heap.size := (unhide HBX).lt
  have hw2 : xb < W.heap.size := cell_lt c0
  clear al1 al2 z1 b0 b1 b2
  have hk := unhide HKK
  have e0 : W.cell? ⟨w.heap.size, 0, none⟩ = some (.int .i64 7) := by rw [e0', hk]
  have hbt : betweenT x.kind = [32, 42, 32] := by rw [hk]; rfl
  have hip : (x.kind == 7 || x.kind == 8) = true := by rw [hk]; rfl
  rw [hbt, hip] at HT
  have HPX := hide (fun V => hip ▸ prodK_any x (some ⟨xb, xo, none⟩) xn xc V)
  clear hbt hip hk e0' HKK HBX
  go_upto_region 29 with fail
  clear e0 e3 hw1 hw2 c0 c1 c2 c3 c4 c5 c6 c7
  generalize ((W.alloc (.cells #[.int .i64 y.kind, .int .i64 y.n, .string ⟨y.name.toArray⟩, .slice ya yn yc] ET)).alloc (.cells #[.int .i64 z.kind, .int .i64 z.n, .string ⟨z.name.toArray⟩, .slice za zn zc] ET)) = W2 at *
  generalize W.heap.size + 1 = qb at *
  generalize W.heap.size = pb at *
  have HSY := hide (fun V => sumK_any y ya yn yc V)
  have HSZ := hide (fun V => sumK_any z za zn zc V)
  have HPZ := hide (fun V => prodK_any z za zn zc V)
  have HNB := hide (show (z.kind == 4) = (z.kind == 4) from rfl)
  generalize (y.kind == 5 || y.kind == 6) = sA at *
  generalize (z.kind == 5 || z.kind == 6) = sB at *
  generalize (z.kind == 7 || z.kind == 8) = pB at *
  generalize hnb4 : (z.kind == 4) = nB at *
  have HD := hide (below_drewN (Below.refl W2.heap.size W2) 1)
  cases sB with
  | true =>
    have hla : (rndT TY sA).length ≤ 200000 := by have := unhide HL sA; omega
    have hlb : (rndT TZ true).length ≤ 200000 := by have := unhide HL2 true; omega
    have hca : (⟨(rndT TY sA).toArray⟩ : ByteArray) ++ ⟨#[32, 42, 32]⟩ = ⟨(rndT TY sA ++ [32, 42, 32]).toArray⟩ := cat2 _ [32, 42, 32]
    have hna : ¬ 9223372036854775807 < (rndT TY sA).length + 3 := by omega
    have hcb : (⟨(rndT TY sA ++ [32, 42, 32]).toArray⟩ : ByteArray) ++ ⟨(rndT TZ true).toArray⟩ = ⟨(rndT TY sA ++ [32, 42, 32] ++ rndT TZ true).toArray⟩ := cat2 _ _
    have hnb : ¬ 9223372036854775807 < (rndT TY sA).length + 3 + (rndT TZ true).length := by omega
    generalize hra : rndT TY sA = RA at *
    generalize hrb : rndT TZ true = RB at *
    have HRA := hide (fun V => hra ▸ round_any TY sA (by omega) V)
    have HRB := hide (fun V => hrb ▸ round_any TZ true (by omega) V)
    have HRE := hide (And.intro hra hrb)
    clear hra hrb
    refine wp_regionE (R12 w.heap.size x (.slice (some ⟨xb, xo, none⟩) xn xc) pb y (.slice ya yn yc) qb z (.slice za zn zc)) (fun j => decide (j < 31)) (by kernel_rfl) ((unhide HS0).keep (unhide HD)) (fun hS => ?_)
    refine anyE_take 0 (v := ?_) rfl (by kernel_rfl) (by kernel_rfl) (by kernel_rfl) (by kernel_rfl) (fun _ _ _ h => h) hS (Or.inl ⟨by rfl, ?_⟩) ?_
    rotate_left
    · intro w' hS'
      obtain ⟨e0, e1, e2, e3, e4, e5, e6, e7, e8, e9, e10, e11⟩ := hS'
      go_simp
      try with_reducible rfl
    try simp only [List.getElem_toArray, List.getElem_cons_zero, Act.put, List.setIfInBounds_toArray, List.set_cons_zero, List.set_cons_succ]
    refine anyE_take 2 (v := ?_) rfl (by kernel_rfl) (by kernel_rfl) (by kernel_rfl) (by kernel_rfl) (fun _ _ _ h => h) hS (Or.inl ⟨by rfl, ?_⟩) ?_
    rotate_left
    · intro w' hS'
      obtain ⟨e0, e1, e2, e3, e4, e5, e6, e7, e8, e9, e10, e11⟩ := hS'
      go_simp
      try with_reducible rfl
    try simp only [List.getElem_toArray, List.getElem_cons_succ, List.getElem_cons_zero, Act.put, List.setIfInBounds_toArray, List.set_cons_zero, List.set_cons_succ]
    refine anyE_take 9 (v := ?_) rfl (by kernel_rfl) (by kernel_rfl) (by kernel_rfl) (by kernel_rfl) (fun _ _ _ h => h) hS (Or.inl ⟨by rfl, ?_⟩) ?_
    rotate_left
    · intro w' hS'
      obtain ⟨e0, e1, e2, e3, e4, e5, e6, e7, e8, e9, e10, e11⟩ := hS'
      go_simp
      try with_reducible rfl
    try simp only [List.getElem_toArray, List.getElem_cons_succ, List.getElem_cons_zero, Act.put, List.setIfInBounds_toArray, List.set_cons_zero, List.set_cons_succ]
    refine anyE_take 11 (v := ?_) rfl (by kernel_rfl) (by kernel_rfl) (by kernel_rfl) (by kernel_rfl) (fun _ _ _ h => h) hS (Or.inl ⟨by rfl, ?_⟩) ?_
    rotate_left
    · intro w' hS'
      obtain ⟨e0, e1, e2, e3, e4, e5, e6, e7, e8, e9, e10, e11⟩ := hS'
      go_simp
      try with_reducible rfl
    try simp only [List.getElem_toArray, List.getElem_cons_succ, List.getElem_cons_zero, Act.put, List.setIfInBounds_toArray, List.set_cons_zero, List.set_cons_succ]
    refine anyE_take 13 (v := ?_) rfl (by kernel_rfl) (by kernel_rfl) (by kernel_rfl) (by kernel_rfl) (fun _ _ _ h => h) hS (Or.inl ⟨by rfl, ?_⟩) ?_
    rotate_left
    · intro w' hS'
      obtain ⟨e0, e1, e2, e3, e4, e5, e6, e7, e8, e9, e10, e11⟩ := hS'
      go_simp
      try with_reducible rfl
    try simp only [List.getElem_toArray, List.getElem_cons_succ, List.getElem_cons_zero, Act.put, List.setIfInBounds_toArray, List.set_cons_zero, List.set_cons_succ]
    refine anyE_ready [1] (by kernel_rfl) (by simp) (ReadyE.cons rfl (fun K' hK => ?_) ReadyE.nil)
    go_simp
    go_at_call 9
    refine (unhide HQ _ _ ((unhide HFI2).old (unhide HD))).mono ?_
    rintro ev V1 ⟨rfl, hbc⟩
    dsimp only
    try go_simp
    refine hK _ _ (fun _ => R12.keep hS hbc) ?_
    replace hS := R12.keep hS hbc
    clear hK K'
    have HB1 := hide (bthen (unhide HD) hbc)
    clear hbc
    try simp only [List.getElem_toArray, List.getElem_cons_succ, List.getElem_cons_zero, Act.put, List.setIfInBounds_toArray, List.set_cons_zero, List.set_cons_succ]
    refine anyE_ready [3] (by kernel_rfl) (by simp) (ReadyE.cons rfl (fun K' hK => ?_) ReadyE.nil)
    go_simp
    go_at_call 32
    refine (unhide HPX V1).mono ?_
    rintro ev V2 ⟨rfl, hbc⟩
    dsimp only
    try go_simp
    refine hK _ _ (fun _ => R12.keep hS hbc) ?_
    replace hS := R12.keep hS hbc
    clear hK K'
    have HB2 := hide (bthen (unhide HB1) hbc)
    clear hbc
    try simp only [List.getElem_toArray, List.getElem_cons_succ, List.getElem_cons_zero, Act.put, List.setIfInBounds_toArray, List.set_cons_zero, List.set_cons_succ]
    refine anyE_take 4 (v := ?_) rfl (by kernel_rfl) (by kernel_rfl) (by kernel_rfl) (by kernel_rfl) (fun _ _ _ h => h) hS (Or.inl ⟨by rfl, ?_⟩) ?_
    rotate_left
    · intro w' hS'
      obtain ⟨e0, e1, e2, e3, e4, e5, e6, e7, e8, e9, e10, e11⟩ := hS'
      go_simp
      try with_reducible rfl
    try simp only [List.getElem_toArray, List.getElem_cons_succ, List.getElem_cons_zero, Act.put, List.setIfInBounds_toArray, List.set_cons_zero, List.set_cons_succ]
    refine anyE_take 5 (v := ?_) rfl (by kernel_rfl) (by kernel_rfl) (by kernel_rfl) (by kernel_rfl) (fun _ _ _ h => h) hS (Or.inl ⟨by rfl, ?_⟩) ?_
    rotate_left
    · intro w' hS'
      obtain ⟨e0, e1, e2, e3, e4, e5, e6, e7, e8, e9, e10, e11⟩ := hS'
      go_simp
      try with_reducible rfl
    try simp only [List.getElem_toArray, List.getElem_cons_succ, List.getElem_cons_zero, Act.put, List.setIfInBounds_toArray, List.set_cons_zero, List.set_cons_succ]
    refine anyE_ready [6] (by kernel_rfl) (by simp) (ReadyE.cons rfl (fun K' hK => ?_) ReadyE.nil)
    go_simp
    go_at_call 31
    refine (unhide HSY V2).mono ?_
    rintro ev V3 ⟨rfl, hbc⟩
    dsimp only
    try go_simp
    refine hK _ _ (fun _ => R12.keep hS hbc) ?_
    replace hS := R12.keep hS hbc
    clear hK K'
    have HB3 := hide (bthen (unhide HB2) hbc)
    clear hbc
    try simp only [List.getElem_toArray, List.getElem_cons_succ, List.getElem_cons_zero, Act.put, List.setIfInBounds_toArray, List.set_cons_zero, List.set_cons_succ]
    refine anyE_take 7 (v := ?_) rfl (by kernel_rfl) (by kernel_rfl) (by kernel_rfl) (by kernel_rfl) (fun _ _ _ h => h) hS (Or.inl ⟨by rfl, ?_⟩) ?_
    rotate_left
    · intro w' hS'
      obtain ⟨e0, e1, e2, e3, e4, e5, e6, e7, e8, e9, e10, e11⟩ := hS'
      go_simp
      try with_reducible rfl
    try simp only [List.getElem_toArray, List.getElem_cons_succ, List.getElem_cons_zero, Act.put, List.setIfInBounds_toArray, List.set_cons_zero, List.set_cons_succ]
    refine anyE_ready [8] (by kernel_rfl) (by simp) (ReadyE.cons rfl (fun K' hK => ?_) ReadyE.nil)
    go_simp
    go_at_call 29
    refine (unhide HRA V3).mono ?_
    rintro ev V4 ⟨rfl, hbc⟩
    dsimp only
    try go_simp
    refine hK _ _ (fun _ => R12.keep hS hbc) ?_
    replace hS := R12.keep hS hbc
    clear hK K'
    have HB4 := hide (bthen (unhide HB3) hbc)
    clear hbc
    try simp only [List.getElem_toArray, List.getElem_cons_succ, List.getElem_cons_zero, Act.put, List.setIfInBounds_toArray, List.set_cons_zero, List.set_cons_succ]
    refine anyE_take 10 (v := ?_) rfl (by kernel_rfl) (by kernel_rfl) (by kernel_rfl) (by kernel_rfl) (fun _ _ _ h => h) hS (Or.inl ⟨by rfl, ?_⟩) ?_
    rotate_left
    · intro w' hS'
      obtain ⟨e0, e1, e2, e3, e4, e5, e6, e7, e8, e9, e10, e11⟩ := hS'
      go_simp
      try with_reducible rfl
    try simp only [List.getElem_toArray, List.getElem_cons_succ, List.getElem_cons_zero, Act.put, List.setIfInBounds_toArray, List.set_cons_zero, List.set_cons_succ]
    refine anyE_ready [12] (by kernel_rfl) (by simp) (ReadyE.cons rfl (fun K' hK => ?_) ReadyE.nil)
    go_simp
    go_at_call 9
    refine (unhide HQ2 _ _ ((unhide HFJ2).old (unhide HB4))).mono ?_
    rintro ev V5 ⟨rfl, hbc⟩
    dsimp only
    try go_simp
    refine hK _ _ (fun _ => R12.keep hS hbc) ?_
    replace hS := R12.keep hS hbc
    clear hK K'
    have HB5 := hide (bthen (unhide HB4) hbc)
    clear hbc
    try simp only [List.getElem_toArray, List.getElem_cons_succ, List.getElem_cons_zero, Act.put, List.setIfInBounds_toArray, List.set_cons_zero, List.set_cons_succ]
    refine anyE_ready [14] (by kernel_rfl) (by simp) (ReadyE.cons rfl (fun K' hK => ?_) ReadyE.nil)
    go_simp
    go_at_call 31
    refine (unhide HSZ V5).mono ?_
    rintro ev V6 ⟨rfl, hbc⟩
    dsimp only
    try go_simp
    refine hK _ _ (fun _ => R12.keep hS hbc) ?_
    replace hS := R12.keep hS hbc
    clear hK K'
    have HB6 := hide (bthen (unhide HB5) hbc)
    clear hbc
    try simp only [List.getElem_toArray, List.getElem_cons_succ, List.getElem_cons_zero, Act.put, List.setIfInBounds_toArray, List.set_cons_zero, List.set_cons_succ]
    refine anyE_take 15 (v := ?_) rfl (by kernel_rfl) (by kernel_rfl) (by kernel_rfl) (by kernel_rfl) (fun _ _ _ h => h) hS (Or.inl ⟨by rfl, ?_⟩) ?_
    rotate_left
    · intro w' hS'
      obtain ⟨e0, e1, e2, e3, e4, e5, e6, e7, e8, e9, e10, e11⟩ := hS'
      go_simp
      try with_reducible rfl
    try simp only [List.getElem_toArray, List.getElem_cons_succ, List.getElem_cons_zero, Act.put, List.setIfInBounds_toArray, List.set_cons_zero, List.set_cons_succ]
    refine anyE_take 16 (v := undef) rfl (by kernel_rfl) (by kernel_rfl) (by kernel_rfl) (by kernel_rfl) (fun _ _ _ h => h) hS (Or.inr ⟨by rfl, rfl⟩) ?_
    try simp only [List.getElem_toArray, List.getElem_cons_succ, List.getElem_cons_zero, Act.put, List.setIfInBounds_toArray, List.set_cons_zero, List.set_cons_succ]
    refine anyE_take 17 (v := undef) rfl (by kernel_rfl) (by kernel_rfl) (by kernel_rfl) (by kernel_rfl) (fun _ _ _ h => h) hS (Or.inr ⟨by rfl, rfl⟩) ?_
    try simp only [List.getElem_toArray, List.getElem_cons_succ, List.getElem_cons_zero, Act.put, List.setIfInBounds_toArray, List.set_cons_zero, List.set_cons_succ]
    refine anyE_take 18 (v := undef) rfl (by kernel_rfl) (by kernel_rfl) (by kernel_rfl) (by kernel_rfl) (fun _ _ _ h => h) hS (Or.inr ⟨by rfl, rfl⟩) ?_
    try simp only [List.getElem_toArray, List.getElem_cons_succ, List.getElem_cons_zero, Act.put, List.setIfInBounds_toArray, List.set_cons_zero, List.set_cons_succ]
    refine anyE_take 19 (v := undef) rfl (by kernel_rfl) (by kernel_rfl) (by kernel_rfl) (by kernel_rfl) (fun _ _ _ h => h) hS (Or.inr ⟨by rfl, rfl⟩) ?_
    try simp only [List.getElem_toArray, List.getElem_cons_succ, List.getElem_cons_zero, Act.put, List.setIfInBounds_toArray, List.set_cons_zero, List.set_cons_succ]
    refine anyE_take 20 (v := undef) rfl (by kernel_rfl) (by kernel_rfl) (by kernel_rfl) (by kernel_rfl) (fun _ _ _ h => h) hS (Or.inr ⟨by rfl, rfl⟩) ?_
    try simp only [List.getElem_toArray, List.getElem_cons_succ, List.getElem_cons_zero, Act.put, List.setIfInBounds_toArray, List.set_cons_zero, List.set_cons_succ]
    refine anyE_take 21 (v := undef) rfl (by kernel_rfl) (by kernel_rfl) (by kernel_rfl) (by kernel_rfl) (fun _ _ _ h => h) hS (Or.inr ⟨by rfl, rfl⟩) ?_
    try simp only [List.getElem_toArray, List.getElem_cons_succ, List.getElem_cons_zero, Act.put, List.setIfInBounds_toArray, List.set_cons_zero, List.set_cons_succ]
    refine anyE_take 22 (v := ?_) rfl (by kernel_rfl) (by kernel_rfl) (by kernel_rfl) (by kernel_rfl) (fun _ _ _ h => h) hS (Or.inl ⟨by rfl, ?_⟩) ?_
    rotate_left
    · intro w' hS'
      obtain ⟨e0, e1, e2, e3, e4, e5, e6, e7, e8, e9, e10, e11⟩ := hS'
      go_simp
      try with_reducible rfl
    try simp only [List.getElem_toArray, List.getElem_cons_succ, List.getElem_cons_zero, Act.put, List.setIfInBounds_toArray, List.set_cons_zero, List.set_cons_succ]
    refine anyE_take 23 (v := ?_) rfl (by kernel_rfl) (by kernel_rfl) (by kernel_rfl) (by kernel_rfl) (fun _ _ _ h => h) hS (Or.inl ⟨by rfl, ?_⟩) ?_
    rotate_left
    · intro w' hS'
      obtain ⟨e0, e1, e2, e3, e4, e5, e6, e7, e8, e9, e10, e11⟩ := hS'
      go_simp
      try with_reducible rfl
    try simp only [List.getElem_toArray, List.getElem_cons_succ, List.getElem_cons_zero, Act.put, List.setIfInBounds_toArray, List.set_cons_zero, List.set_cons_succ]
    refine anyE_take 24 (v := undef) rfl (by kernel_rfl) (by kernel_rfl) (by kernel_rfl) (by kernel_rfl) (fun _ _ _ h => h) hS (Or.inr ⟨by rfl, rfl⟩) ?_
    try simp only [List.getElem_toArray, List.getElem_cons_succ, List.getElem_cons_zero, Act.put, List.setIfInBounds_toArray, List.set_cons_zero, List.set_cons_succ]
    refine anyE_take 25 (v := undef) rfl (by kernel_rfl) (by kernel_rfl) (by kernel_rfl) (by kernel_rfl) (fun _ _ _ h => h) hS (Or.inr ⟨by rfl, rfl⟩) ?_
    try simp only [List.getElem_toArray, List.getElem_cons_succ, List.getElem_cons_zero, Act.put, List.setIfInBounds_toArray, List.set_cons_zero, List.set_cons_succ]
    refine anyE_take 26 (v := undef) rfl (by kernel_rfl) (by kernel_rfl) (by kernel_rfl) (by kernel_rfl) (fun _ _ _ h => h) hS (Or.inr ⟨by rfl, rfl⟩) ?_
    try simp only [List.getElem_toArray, List.getElem_cons_succ, List.getElem_cons_zero, Act.put, List.setIfInBounds_toArray, List.set_cons_zero, List.set_cons_succ]
    refine anyE_take 27 (v := ?_) rfl (by kernel_rfl) (by kernel_rfl) (by kernel_rfl) (by kernel_rfl) (fun _ _ _ h => h) hS (Or.inl ⟨by rfl, ?_⟩) ?_
    rotate_left
    · intro w' hS'
      obtain ⟨e0, e1, e2, e3, e4, e5, e6, e7, e8, e9, e10, e11⟩ := hS'
      go_simp
      try with_reducible rfl
    try simp only [List.getElem_toArray, List.getElem_cons_succ, List.getElem_cons_zero, Act.put, List.setIfInBounds_toArray, List.set_cons_zero, List.set_cons_succ]
    refine anyE_ready [28] (by kernel_rfl) (by simp) (ReadyE.cons rfl (fun K' hK => ?_) ReadyE.nil)
    go_simp
    go_at_call 29
    refine (unhide HRB V6).mono ?_
    rintro ev V7 ⟨rfl, hbc⟩
    dsimp only
    try go_simp
    refine hK _ _ (fun _ => R12.keep hS hbc) ?_
    replace hS := R12.keep hS hbc
    clear hK K'
    have HB7 := hide (bthen (unhide HB6) hbc)
    clear hbc
    try simp only [List.getElem_toArray, List.getElem_cons_succ, List.getElem_cons_zero, Act.put, List.setIfInBounds_toArray, List.set_cons_zero, List.set_cons_succ]
    refine anyE_take 29 (v := ?_) rfl (by kernel_rfl) (by kernel_rfl) (by kernel_rfl) (by kernel_rfl) (fun _ _ _ h => h) hS (Or.inl ⟨by rfl, ?_⟩) ?_
    rotate_left
    · intro w' hS'
      obtain ⟨e0, e1, e2, e3, e4, e5, e6, e7, e8, e9, e10, e11⟩ := hS'
      go_simp
      try with_reducible rfl
    try simp only [List.getElem_toArray, List.getElem_cons_succ, List.getElem_cons_zero, Act.put, List.setIfInBounds_toArray, List.set_cons_zero, List.set_cons_succ]
    refine anyE_take 30 (v := ?_) rfl (by kernel_rfl) (by kernel_rfl) (by kernel_rfl) (by kernel_rfl) (fun _ _ _ h => h) hS (Or.inl ⟨by rfl, ?_⟩) ?_
    rotate_left
    · intro w' hS'
      obtain ⟨e0, e1, e2, e3, e4, e5, e6, e7, e8, e9, e10, e11⟩ := hS'
      go_simp
      try with_reducible rfl
    try simp only [List.getElem_toArray, List.getElem_cons_succ, List.getElem_cons_zero, Act.put, List.setIfInBounds_toArray, List.set_cons_zero, List.set_cons_succ]
    refine anyE_done (by kernel_rfl) ?_ _
    clear hS
    go_wp2_with fail
    go_ret
    have e : TX = RA ++ 32 :: 42 :: 32 :: RB := by rw [unhide HT, ← (unhide HRE).1, ← (unhide HRE).2]; simp
    exact ⟨by rw [e]; rfl, bthen (unhide HAL2) (unhide HB7)⟩
  | false =>
    cases pB with
    | true =>
      have hla : (rndT TY sA).length ≤ 200000 := by have := unhide HL sA; omega
      have hlb : (rndT TZ true).length ≤ 200000 := by have := unhide HL2 true; omega
      have hca : (⟨(rndT TY sA).toArray⟩ : ByteArray) ++ ⟨#[32, 42, 32]⟩ = ⟨(rndT TY sA ++ [32, 42, 32]).toArray⟩ := cat2 _ [32, 42, 32]
      have hna : ¬ 9223372036854775807 < (rndT TY sA).length + 3 := by omega
      have hcb : (⟨(rndT TY sA ++ [32, 42, 32]).toArray⟩ : ByteArray) ++ ⟨(rndT TZ true).toArray⟩ = ⟨(rndT TY sA ++ [32, 42, 32] ++ rndT TZ true).toArray⟩ := cat2 _ _
      have hnb : ¬ 9223372036854775807 < (rndT TY sA).length + 3 + (rndT TZ true).length := by omega
      generalize hra : rndT TY sA = RA at *
      generalize hrb : rndT TZ true = RB at *
      have HRA := hide (fun V => hra ▸ round_any TY sA (by omega) V)
      have HRB := hide (fun V => hrb ▸ round_any TZ true (by omega) V)
      have HRE := hide (And.intro hra hrb)
      clear hra hrb
      refine wp_regionE (R12 w.heap.size x (.slice (some ⟨xb, xo, none⟩) xn xc) pb y (.slice ya yn yc) qb z (.slice za zn zc)) (fun j => decide (j < 31)) (by kernel_rfl) ((unhide HS0).keep (unhide HD)) (fun hS => ?_)
      refine anyE_take 0 (v := ?_) rfl (by kernel_rfl) (by kernel_rfl) (by kernel_rfl) (by kernel_rfl) (fun _ _ _ h => h) hS (Or.inl ⟨by rfl, ?_⟩) ?_
      rotate_left
      · intro w' hS'
        obtain ⟨e0, e1, e2, e3, e4, e5, e6, e7, e8, e9, e10, e11⟩ := hS'
        go_simp
        try with_reducible rfl
      try simp only [List.getElem_toArray, List.getElem_cons_zero, Act.put, List.setIfInBounds_toArray, List.set_cons_zero, List.set_cons_succ]
      refine anyE_take 2 (v := ?_) rfl (by kernel_rfl) (by kernel_rfl) (by kernel_rfl) (by kernel_rfl) (fun _ _ _ h => h) hS (Or.inl ⟨by rfl, ?_⟩) ?_
      rotate_left
      · intro w' hS'
        obtain ⟨e0, e1, e2, e3, e4, e5, e6, e7, e8, e9, e10, e11⟩ := hS'
        go_simp
        try with_reducible rfl
      try simp only [List.getElem_toArray, List.getElem_cons_succ, List.getElem_cons_zero, Act.put, List.setIfInBounds_toArray, List.set_cons_zero, List.set_cons_succ]
      refine anyE_take 9 (v := ?_) rfl (by kernel_rfl) (by kernel_rfl) (by kernel_rfl) (by kernel_rfl) (fun _ _ _ h => h) hS (Or.inl ⟨by rfl, ?_⟩) ?_
      rotate_left
      · intro w' hS'
        obtain ⟨e0, e1, e2, e3, e4, e5, e6, e7, e8, e9, e10, e11⟩ := hS'
        go_simp
        try with_reducible rfl
      try simp only [List.getElem_toArray, List.getElem_cons_succ, List.getElem_cons_zero, Act.put, List.setIfInBounds_toArray, List.set_cons_zero, List.set_cons_succ]
      refine anyE_take 11 (v := ?_) rfl (by kernel_rfl) (by kernel_rfl) (by kernel_rfl) (by kernel_rfl) (fun _ _ _ h => h) hS (Or.inl ⟨by rfl, ?_⟩) ?_
      rotate_left
      · intro w' hS'
        obtain ⟨e0, e1, e2, e3, e4, e5, e6, e7, e8, e9, e10, e11⟩ := hS'
        go_simp
        try with_reducible rfl
      try simp only [List.getElem_toArray, List.getElem_cons_succ, List.getElem_cons_zero, Act.put, List.setIfInBounds_toArray, List.set_cons_zero, List.set_cons_succ]
      refine anyE_take 13 (v := ?_) rfl (by kernel_rfl) (by kernel_rfl) (by kernel_rfl) (by kernel_rfl) (fun _ _ _ h => h) hS (Or.inl ⟨by rfl, ?_⟩) ?_
      rotate_left
      · intro w' hS'
        obtain ⟨e0, e1, e2, e3, e4, e5, e6, e7, e8, e9, e10, e11⟩ := hS'
        go_simp
        try with_reducible rfl
      try simp only [List.getElem_toArray, List.getElem_cons_succ, List.getElem_cons_zero, Act.put, List.setIfInBounds_toArray, List.set_cons_zero, List.set_cons_succ]
      refine anyE_ready [1] (by kernel_rfl) (by simp) (ReadyE.cons rfl (fun K' hK => ?_) ReadyE.nil)
      go_simp
      go_at_call 9
      refine (unhide HQ _ _ ((unhide HFI2).old (unhide HD))).mono ?_
      rintro ev V1 ⟨rfl, hbc⟩
      dsimp only
      try go_simp
      refine hK _ _ (fun _ => R12.keep hS hbc) ?_
      replace hS := R12.keep hS hbc
      clear hK K'
      have HB1 := hide (bthen (unhide HD) hbc)
      clear hbc
      try simp only [List.getElem_toArray, List.getElem_cons_succ, List.getElem_cons_zero, Act.put, List.setIfInBounds_toArray, List.set_cons_zero, List.set_cons_succ]
      refine anyE_ready [3] (by kernel_rfl) (by simp) (ReadyE.cons rfl (fun K' hK => ?_) ReadyE.nil)
      go_simp
      go_at_call 32
      refine (unhide HPX V1).mono ?_
      rintro ev V2 ⟨rfl, hbc⟩
      dsimp only
      try go_simp
      refine hK _ _ (fun _ => R12.keep hS hbc) ?_
      replace hS := R12.keep hS hbc
      clear hK K'
      have HB2 := hide (bthen (unhide HB1) hbc)
      clear hbc
      try simp only [List.getElem_toArray, List.getElem_cons_succ, List.getElem_cons_zero, Act.put, List.setIfInBounds_toArray, List.set_cons_zero, List.set_cons_succ]
      refine anyE_take 4 (v := ?_) rfl (by kernel_rfl) (by kernel_rfl) (by kernel_rfl) (by kernel_rfl) (fun _ _ _ h => h) hS (Or.inl ⟨by rfl, ?_⟩) ?_
      rotate_left
      · intro w' hS'
        obtain ⟨e0, e1, e2, e3, e4, e5, e6, e7, e8, e9, e10, e11⟩ := hS'
        go_simp
        try with_reducible rfl
      try simp only [List.getElem_toArray, List.getElem_cons_succ, List.getElem_cons_zero, Act.put, List.setIfInBounds_toArray, List.set_cons_zero, List.set_cons_succ]
      refine anyE_take 5 (v := ?_) rfl (by kernel_rfl) (by kernel_rfl) (by kernel_rfl) (by kernel_rfl) (fun _ _ _ h => h) hS (Or.inl ⟨by rfl, ?_⟩) ?_
      rotate_left
      · intro w' hS'
        obtain ⟨e0, e1, e2, e3, e4, e5, e6, e7, e8, e9, e10, e11⟩ := hS'
        go_simp
        try with_reducible rfl
      try simp only [List.getElem_toArray, List.getElem_cons_succ, List.getElem_cons_zero, Act.put, List.setIfInBounds_toArray, List.set_cons_zero, List.set_cons_succ]
      refine anyE_ready [6] (by kernel_rfl) (by simp) (ReadyE.cons rfl (fun K' hK => ?_) ReadyE.nil)
      go_simp
      go_at_call 31
      refine (unhide HSY V2).mono ?_
      rintro ev V3 ⟨rfl, hbc⟩
      dsimp only
      try go_simp
      refine hK _ _ (fun _ => R12.keep hS hbc) ?_
      replace hS := R12.keep hS hbc
      clear hK K'
      have HB3 := hide (bthen (unhide HB2) hbc)
      clear hbc
      try simp only [List.getElem_toArray, List.getElem_cons_succ, List.getElem_cons_zero, Act.put, List.setIfInBounds_toArray, List.set_cons_zero, List.set_cons_succ]
      refine anyE_take 7 (v := ?_) rfl (by kernel_rfl) (by kernel_rfl) (by kernel_rfl) (by kernel_rfl) (fun _ _ _ h => h) hS (Or.inl ⟨by rfl, ?_⟩) ?_
      rotate_left
      · intro w' hS'
        obtain ⟨e0, e1, e2, e3, e4, e5, e6, e7, e8, e9, e10, e11⟩ := hS'
        go_simp
        try with_reducible rfl
      try simp only [List.getElem_toArray, List.getElem_cons_succ, List.getElem_cons_zero, Act.put, List.setIfInBounds_toArray, List.set_cons_zero, List.set_cons_succ]
      refine anyE_ready [8] (by kernel_rfl) (by simp) (ReadyE.cons rfl (fun K' hK => ?_) ReadyE.nil)
      go_simp
      go_at_call 29
      refine (unhide HRA V3).mono ?_
      rintro ev V4 ⟨rfl, hbc⟩
      dsimp only
      try go_simp
      refine hK _ _ (fun _ => R12.keep hS hbc) ?_
      replace hS := R12.keep hS hbc
      clear hK K'
      have HB4 := hide (bthen (unhide HB3) hbc)
      clear hbc
      try simp only [List.getElem_toArray, List.getElem_cons_succ, List.getElem_cons_zero, Act.put, List.setIfInBounds_toArray, List.set_cons_zero, List.set_cons_succ]
      refine anyE_take 10 (v := ?_) rfl (by kernel_rfl) (by kernel_rfl) (by kernel_rfl) (by kernel_rfl) (fun _ _ _ h => h) hS (Or.inl ⟨by rfl, ?_⟩) ?_
      rotate_left
      · intro w' hS'
        obtain ⟨e0, e1, e2, e3, e4, e5, e6, e7, e8, e9, e10, e11⟩ := hS'
        go_simp
        try with_reducible rfl
      try simp only [List.getElem_toArray, List.getElem_cons_succ, List.getElem_cons_zero, Act.put, List.setIfInBounds_toArray, List.set_cons_zero, List.set_cons_succ]
      refine anyE_ready [12] (by kernel_rfl) (by simp) (ReadyE.cons rfl (fun K' hK => ?_) ReadyE.nil)
      go_simp
      go_at_call 9
      refine (unhide HQ2 _ _ ((unhide HFJ2).old (unhide HB4))).mono ?_
      rintro ev V5 ⟨rfl, hbc⟩
      dsimp only
      try go_simp
      refine hK _ _ (fun _ => R12.keep hS hbc) ?_
      replace hS := R12.keep hS hbc
      clear hK K'
      have HB5 := hide (bthen (unhide HB4) hbc)
      clear hbc
      try simp only [List.getElem_toArray, List.getElem_cons_succ, List.getElem_cons_zero, Act.put, List.setIfInBounds_toArray, List.set_cons_zero, List.set_cons_succ]
      refine anyE_ready [14] (by kernel_rfl) (by simp) (ReadyE.cons rfl (fun K' hK => ?_) ReadyE.nil)
      go_simp
      go_at_call 31
      refine (unhide HSZ V5).mono ?_
      rintro ev V6 ⟨rfl, hbc⟩
      dsimp only
      try go_simp
      refine hK _ _ (fun _ => R12.keep hS hbc) ?_
      replace hS := R12.keep hS hbc
      clear hK K'
      have HB6 := hide (bthen (unhide HB5) hbc)
      clear hbc
      try simp only [List.getElem_toArray, List.getElem_cons_succ, List.getElem_cons_zero, Act.put, List.setIfInBounds_toArray, List.set_cons_zero, List.set_cons_succ]
      refine anyE_take 15 (v := ?_) rfl (by kernel_rfl) (by kernel_rfl) (by kernel_rfl) (by kernel_rfl) (fun _ _ _ h => h) hS (Or.inl ⟨by rfl, ?_⟩) ?_
      rotate_left
      · intro w' hS'
        obtain ⟨e0, e1, e2, e3, e4, e5, e6, e7, e8, e9, e10, e11⟩ := hS'
        go_simp
        try with_reducible rfl
      try simp only [List.getElem_toArray, List.getElem_cons_succ, List.getElem_cons_zero, Act.put, List.setIfInBounds_toArray, List.set_cons_zero, List.set_cons_succ]
      refine anyE_take 16 (v := ?_) rfl (by kernel_rfl) (by kernel_rfl) (by kernel_rfl) (by kernel_rfl) (fun _ _ _ h => h) hS (Or.inl ⟨by rfl, ?_⟩) ?_
      rotate_left
      · intro w' hS'
        obtain ⟨e0, e1, e2, e3, e4, e5, e6, e7, e8, e9, e10, e11⟩ := hS'
        go_simp
        try with_reducible rfl
      try simp only [List.getElem_toArray, List.getElem_cons_succ, List.getElem_cons_zero, Act.put, List.setIfInBounds_toArray, List.set_cons_zero, List.set_cons_succ]
      refine anyE_ready [17] (by kernel_rfl) (by simp) (ReadyE.cons rfl (fun K' hK => ?_) ReadyE.nil)
      go_simp
      go_at_call 32
      refine (unhide HPX V6).mono ?_
      rintro ev V7 ⟨rfl, hbc⟩
      dsimp only
      try go_simp
      refine hK _ _ (fun _ => R12.keep hS hbc) ?_
      replace hS := R12.keep hS hbc
      clear hK K'
      have HB7 := hide (bthen (unhide HB6) hbc)
      clear hbc
      try simp only [List.getElem_toArray, List.getElem_cons_succ, List.getElem_cons_zero, Act.put, List.setIfInBounds_toArray, List.set_cons_zero, List.set_cons_succ]
      refine anyE_take 18 (v := ?_) rfl (by kernel_rfl) (by kernel_rfl) (by kernel_rfl) (by kernel_rfl) (fun _ _ _ h => h) hS (Or.inl ⟨by rfl, ?_⟩) ?_
      rotate_left
      · intro w' hS'
        obtain ⟨e0, e1, e2, e3, e4, e5, e6, e7, e8, e9, e10, e11⟩ := hS'
        go_simp
        try with_reducible rfl
      try simp only [List.getElem_toArray, List.getElem_cons_succ, List.getElem_cons_zero, Act.put, List.setIfInBounds_toArray, List.set_cons_zero, List.set_cons_succ]
      refine anyE_take 19 (v := ?_) rfl (by kernel_rfl) (by kernel_rfl) (by kernel_rfl) (by kernel_rfl) (fun _ _ _ h => h) hS (Or.inl ⟨by rfl, ?_⟩) ?_
      rotate_left
      · intro w' hS'
        obtain ⟨e0, e1, e2, e3, e4, e5, e6, e7, e8, e9, e10, e11⟩ := hS'
        go_simp
        try with_reducible rfl
      try simp only [List.getElem_toArray, List.getElem_cons_succ, List.getElem_cons_zero, Act.put, List.setIfInBounds_toArray, List.set_cons_zero, List.set_cons_succ]
      refine anyE_ready [20] (by kernel_rfl) (by simp) (ReadyE.cons rfl (fun K' hK => ?_) ReadyE.nil)
      go_simp
      go_at_call 32
      refine (unhide HPZ V7).mono ?_
      rintro ev V8 ⟨rfl, hbc⟩
      dsimp only
      try go_simp
      refine hK _ _ (fun _ => R12.keep hS hbc) ?_
      replace hS := R12.keep hS hbc
      clear hK K'
      have HB8 := hide (bthen (unhide HB7) hbc)
      clear hbc
      try simp only [List.getElem_toArray, List.getElem_cons_succ, List.getElem_cons_zero, Act.put, List.setIfInBounds_toArray, List.set_cons_zero, List.set_cons_succ]
      refine anyE_take 21 (v := ?_) rfl (by kernel_rfl) (by kernel_rfl) (by kernel_rfl) (by kernel_rfl) (fun _ _ _ h => h) hS (Or.inl ⟨by rfl, ?_⟩) ?_
      rotate_left
      · intro w' hS'
        obtain ⟨e0, e1, e2, e3, e4, e5, e6, e7, e8, e9, e10, e11⟩ := hS'
        go_simp
        try with_reducible rfl
      try simp only [List.getElem_toArray, List.getElem_cons_succ, List.getElem_cons_zero, Act.put, List.setIfInBounds_toArray, List.set_cons_zero, List.set_cons_succ]
      refine anyE_take 22 (v := ?_) rfl (by kernel_rfl) (by kernel_rfl) (by kernel_rfl) (by kernel_rfl) (fun _ _ _ h => h) hS (Or.inl ⟨by rfl, ?_⟩) ?_
      rotate_left
      · intro w' hS'
        obtain ⟨e0, e1, e2, e3, e4, e5, e6, e7, e8, e9, e10, e11⟩ := hS'
        go_simp
        try with_reducible rfl
      try simp only [List.getElem_toArray, List.getElem_cons_succ, List.getElem_cons_zero, Act.put, List.setIfInBounds_toArray, List.set_cons_zero, List.set_cons_succ]
      refine anyE_take 23 (v := ?_) rfl (by kernel_rfl) (by kernel_rfl) (by kernel_rfl) (by kernel_rfl) (fun _ _ _ h => h) hS (Or.inl ⟨by rfl, ?_⟩) ?_
      rotate_left
      · intro w' hS'
        obtain ⟨e0, e1, e2, e3, e4, e5, e6, e7, e8, e9, e10, e11⟩ := hS'
        go_simp
        try with_reducible rfl
      try simp only [List.getElem_toArray, List.getElem_cons_succ, List.getElem_cons_zero, Act.put, List.setIfInBounds_toArray, List.set_cons_zero, List.set_cons_succ]
      refine anyE_take 24 (v := undef) rfl (by kernel_rfl) (by kernel_rfl) (by kernel_rfl) (by kernel_rfl) (fun _ _ _ h => h) hS (Or.inr ⟨by rfl, rfl⟩) ?_
      try simp only [List.getElem_toArray, List.getElem_cons_succ, List.getElem_cons_zero, Act.put, List.setIfInBounds_toArray, List.set_cons_zero, List.set_cons_succ]
      refine anyE_take 25 (v := undef) rfl (by kernel_rfl) (by kernel_rfl) (by kernel_rfl) (by kernel_rfl) (fun _ _ _ h => h) hS (Or.inr ⟨by rfl, rfl⟩) ?_
      try simp only [List.getElem_toArray, List.getElem_cons_succ, List.getElem_cons_zero, Act.put, List.setIfInBounds_toArray, List.set_cons_zero, List.set_cons_succ]
      refine anyE_take 26 (v := undef) rfl (by kernel_rfl) (by kernel_rfl) (by kernel_rfl) (by kernel_rfl) (fun _ _ _ h => h) hS (Or.inr ⟨by rfl, rfl⟩) ?_
      try simp only [List.getElem_toArray, List.getElem_cons_succ, List.getElem_cons_zero, Act.put, List.setIfInBounds_toArray, List.set_cons_zero, List.set_cons_succ]
      refine anyE_take 27 (v := ?_) rfl (by kernel_rfl) (by kernel_rfl) (by kernel_rfl) (by kernel_rfl) (fun _ _ _ h => h) hS (Or.inl ⟨by rfl, ?_⟩) ?_
      rotate_left
      · intro w' hS'
        obtain ⟨e0, e1, e2, e3, e4, e5, e6, e7, e8, e9, e10, e11⟩ := hS'
        go_simp
        try with_reducible rfl
      try simp only [List.getElem_toArray, List.getElem_cons_succ, List.getElem_cons_zero, Act.put, List.setIfInBounds_toArray, List.set_cons_zero, List.set_cons_succ]
      refine anyE_ready [28] (by kernel_rfl) (by simp) (ReadyE.cons rfl (fun K' hK => ?_) ReadyE.nil)
      go_simp
      go_at_call 29
      refine (unhide HRB V8).mono ?_
      rintro ev V9 ⟨rfl, hbc⟩
      dsimp only
      try go_simp
      refine hK _ _ (fun _ => R12.keep hS hbc) ?_
      replace hS := R12.keep hS hbc
      clear hK K'
      have HB9 := hide (bthen (unhide HB8) hbc)
      clear hbc
      try simp only [List.getElem_toArray, List.getElem_cons_succ, List.getElem_cons_zero, Act.put, List.setIfInBounds_toArray, List.set_cons_zero, List.set_cons_succ]
      refine anyE_take 29 (v := ?_) rfl (by kernel_rfl) (by kernel_rfl) (by kernel_rfl) (by kernel_rfl) (fun _ _ _ h => h) hS (Or.inl ⟨by rfl, ?_⟩) ?_
      rotate_left
      · intro w' hS'
        obtain ⟨e0, e1, e2, e3, e4, e5, e6, e7, e8, e9, e10, e11⟩ := hS'
        go_simp
        try with_reducible rfl
      try simp only [List.getElem_toArray, List.getElem_cons_succ, List.getElem_cons_zero, Act.put, List.setIfInBounds_toArray, List.set_cons_zero, List.set_cons_succ]
      refine anyE_take 30 (v := ?_) rfl (by kernel_rfl) (by kernel_rfl) (by kernel_rfl) (by kernel_rfl) (fun _ _ _ h => h) hS (Or.inl ⟨by rfl, ?_⟩) ?_
      rotate_left
      · intro w' hS'
        obtain ⟨e0, e1, e2, e3, e4, e5, e6, e7, e8, e9, e10, e11⟩ := hS'
        go_simp
        try with_reducible rfl
      try simp only [List.getElem_toArray, List.getElem_cons_succ, List.getElem_cons_zero, Act.put, List.setIfInBounds_toArray, List.set_cons_zero, List.set_cons_succ]
      refine anyE_done (by kernel_rfl) ?_ _
      clear hS
      go_wp2_with fail
      go_ret
      have e : TX = RA ++ 32 :: 42 :: 32 :: RB := by rw [unhide HT, ← (unhide HRE).1, ← (unhide HRE).2]; simp
      exact ⟨by rw [e]; rfl, bthen (unhide HAL2) (unhide HB9)⟩
    | false =>
      have hla : (rndT TY sA).length ≤ 200000 := by have := unhide HL sA; omega
      have hlb : (rndT TZ nB).length ≤ 200000 := by have := unhide HL2 nB; omega
      have hca : (⟨(rndT TY sA).toArray⟩ : ByteArray) ++ ⟨#[32, 42, 32]⟩ = ⟨(rndT TY sA ++ [32, 42, 32]).toArray⟩ := cat2 _ [32, 42, 32]
      have hna : ¬ 9223372036854775807 < (rndT TY sA).length + 3 := by omega
      have hcb : (⟨(rndT TY sA ++ [32, 42, 32]).toArray⟩ : ByteArray) ++ ⟨(rndT TZ nB).toArray⟩ = ⟨(rndT TY sA ++ [32, 42, 32] ++ rndT TZ nB).toArray⟩ := cat2 _ _
      have hnb : ¬ 9223372036854775807 < (rndT TY sA).length + 3 + (rndT TZ nB).length := by omega
      generalize hra : rndT TY sA = RA at *
      generalize hrb : rndT TZ nB = RB at *
      have HRA := hide (fun V => hra ▸ round_any TY sA (by omega) V)
      have HRB := hide (fun V => hrb ▸ round_any TZ nB (by omega) V)
      have HRE := hide (And.intro hra hrb)
      clear hra hrb
      refine wp_regionE (R12 w.heap.size x (.slice (some ⟨xb, xo, none⟩) xn xc) pb y (.slice ya yn yc) qb z (.slice za zn zc)) (fun j => decide (j < 31)) (by kernel_rfl) ((unhide HS0).keep (unhide HD)) (fun hS => ?_)
      refine anyE_take 0 (v := ?_) rfl (by kernel_rfl) (by kernel_rfl) (by kernel_rfl) (by kernel_rfl) (fun _ _ _ h => h) hS (Or.inl ⟨by rfl, ?_⟩) ?_
      rotate_left
      · intro w' hS'
        obtain ⟨e0, e1, e2, e3, e4, e5, e6, e7, e8, e9, e10, e11⟩ := hS'
        go_simp
        try with_reducible rfl
      try simp only [List.getElem_toArray, List.getElem_cons_zero, Act.put, List.setIfInBounds_toArray, List.set_cons_zero, List.set_cons_succ]
      refine anyE_take 2 (v := ?_) rfl (by kernel_rfl) (by kernel_rfl) (by kernel_rfl) (by kernel_rfl) (fun _ _ _ h => h) hS (Or.inl ⟨by rfl, ?_⟩) ?_
      rotate_left
      · intro w' hS'
        obtain ⟨e0, e1, e2, e3, e4, e5, e6, e7, e8, e9, e10, e11⟩ := hS'
        go_simp
        try with_reducible rfl
      try simp only [List.getElem_toArray, List.getElem_cons_succ, List.getElem_cons_zero, Act.put, List.setIfInBounds_toArray, List.set_cons_zero, List.set_cons_succ]
      refine anyE_take 9 (v := ?_) rfl (by kernel_rfl) (by kernel_rfl) (by kernel_rfl) (by kernel_rfl) (fun _ _ _ h => h) hS (Or.inl ⟨by rfl, ?_⟩) ?_
      rotate_left
      · intro w' hS'
        obtain ⟨e0, e1, e2, e3, e4, e5, e6, e7, e8, e9, e10, e11⟩ := hS'
        go_simp
        try with_reducible rfl
      try simp only [List.getElem_toArray, List.getElem_cons_succ, List.getElem_cons_zero, Act.put, List.setIfInBounds_toArray, List.set_cons_zero, List.set_cons_succ]
      refine anyE_take 11 (v := ?_) rfl (by kernel_rfl) (by kernel_rfl) (by kernel_rfl) (by kernel_rfl) (fun _ _ _ h => h) hS (Or.inl ⟨by rfl, ?_⟩) ?_
      rotate_left
      · intro w' hS'
        obtain ⟨e0, e1, e2, e3, e4, e5, e6, e7, e8, e9, e10, e11⟩ := hS'
        go_simp
        try with_reducible rfl
      try simp only [List.getElem_toArray, List.getElem_cons_succ, List.getElem_cons_zero, Act.put, List.setIfInBounds_toArray, List.set_cons_zero, List.set_cons_succ]
      refine anyE_take 13 (v := ?_) rfl (by kernel_rfl) (by kernel_rfl) (by kernel_rfl) (by kernel_rfl) (fun _ _ _ h => h) hS (Or.inl ⟨by rfl, ?_⟩) ?_
      rotate_left
      · intro w' hS'
        obtain ⟨e0, e1, e2, e3, e4, e5, e6, e7, e8, e9, e10, e11⟩ := hS'
        go_simp
        try with_reducible rfl
      try simp only [List.getElem_toArray, List.getElem_cons_succ, List.getElem_cons_zero, Act.put, List.setIfInBounds_toArray, List.set_cons_zero, List.set_cons_succ]
      refine anyE_ready [1] (by kernel_rfl) (by simp) (ReadyE.cons rfl (fun K' hK => ?_) ReadyE.nil)
      go_simp
      go_at_call 9
      refine (unhide HQ _ _ ((unhide HFI2).old (unhide HD))).mono ?_
      rintro ev V1 ⟨rfl, hbc⟩
      dsimp only
      try go_simp
      refine hK _ _ (fun _ => R12.keep hS hbc) ?_
      replace hS := R12.keep hS hbc
      clear hK K'
      have HB1 := hide (bthen (unhide HD) hbc)
      clear hbc
      try simp only [List.getElem_toArray, List.getElem_cons_succ, List.getElem_cons_zero, Act.put, List.setIfInBounds_toArray, List.set_cons_zero, List.set_cons_succ]
      refine anyE_ready [3] (by kernel_rfl) (by simp) (ReadyE.cons rfl (fun K' hK => ?_) ReadyE.nil)
      go_simp
      go_at_call 32
      refine (unhide HPX V1).mono ?_
      rintro ev V2 ⟨rfl, hbc⟩
      dsimp only
      try go_simp
      refine hK _ _ (fun _ => R12.keep hS hbc) ?_
      replace hS := R12.keep hS hbc
      clear hK K'
      have HB2 := hide (bthen (unhide HB1) hbc)
      clear hbc
      try simp only [List.getElem_toArray, List.getElem_cons_succ, List.getElem_cons_zero, Act.put, List.setIfInBounds_toArray, List.set_cons_zero, List.set_cons_succ]
      refine anyE_take 4 (v := ?_) rfl (by kernel_rfl) (by kernel_rfl) (by kernel_rfl) (by kernel_rfl) (fun _ _ _ h => h) hS (Or.inl ⟨by rfl, ?_⟩) ?_
      rotate_left
      · intro w' hS'
        obtain ⟨e0, e1, e2, e3, e4, e5, e6, e7, e8, e9, e10, e11⟩ := hS'
        go_simp
        try with_reducible rfl
      try simp only [List.getElem_toArray, List.getElem_cons_succ, List.getElem_cons_zero, Act.put, List.setIfInBounds_toArray, List.set_cons_zero, List.set_cons_succ]
      refine anyE_take 5 (v := ?_) rfl (by kernel_rfl) (by kernel_rfl) (by kernel_rfl) (by kernel_rfl) (fun _ _ _ h => h) hS (Or.inl ⟨by rfl, ?_⟩) ?_
      rotate_left
      · intro w' hS'
        obtain ⟨e0, e1, e2, e3, e4, e5, e6, e7, e8, e9, e10, e11⟩ := hS'
        go_simp
        try with_reducible rfl
      try simp only [List.getElem_toArray, List.getElem_cons_succ, List.getElem_cons_zero, Act.put, List.setIfInBounds_toArray, List.set_cons_zero, List.set_cons_succ]
      refine anyE_ready [6] (by kernel_rfl) (by simp) (ReadyE.cons rfl (fun K' hK => ?_) ReadyE.nil)
      go_simp
      go_at_call 31
      refine (unhide HSY V2).mono ?_
      rintro ev V3 ⟨rfl, hbc⟩
      dsimp only
      try go_simp
      refine hK _ _ (fun _ => R12.keep hS hbc) ?_
      replace hS := R12.keep hS hbc
      clear hK K'
      have HB3 := hide (bthen (unhide HB2) hbc)
      clear hbc
      try simp only [List.getElem_toArray, List.getElem_cons_succ, List.getElem_cons_zero, Act.put, List.setIfInBounds_toArray, List.set_cons_zero, List.set_cons_succ]
      refine anyE_take 7 (v := ?_) rfl (by kernel_rfl) (by kernel_rfl) (by kernel_rfl) (by kernel_rfl) (fun _ _ _ h => h) hS (Or.inl ⟨by rfl, ?_⟩) ?_
      rotate_left
      · intro w' hS'
        obtain ⟨e0, e1, e2, e3, e4, e5, e6, e7, e8, e9, e10, e11⟩ := hS'
        go_simp
        try with_reducible rfl
      try simp only [List.getElem_toArray, List.getElem_cons_succ, List.getElem_cons_zero, Act.put, List.setIfInBounds_toArray, List.set_cons_zero, List.set_cons_succ]
      refine anyE_ready [8] (by kernel_rfl) (by simp) (ReadyE.cons rfl (fun K' hK => ?_) ReadyE.nil)
      go_simp
      go_at_call 29
      refine (unhide HRA V3).mono ?_
      rintro ev V4 ⟨rfl, hbc⟩
      dsimp only
      try go_simp
      refine hK _ _ (fun _ => R12.keep hS hbc) ?_
      replace hS := R12.keep hS hbc
      clear hK K'
      have HB4 := hide (bthen (unhide HB3) hbc)
      clear hbc
      try simp only [List.getElem_toArray, List.getElem_cons_succ, List.getElem_cons_zero, Act.put, List.setIfInBounds_toArray, List.set_cons_zero, List.set_cons_succ]
      refine anyE_take 10 (v := ?_) rfl (by kernel_rfl) (by kernel_rfl) (by kernel_rfl) (by kernel_rfl) (fun _ _ _ h => h) hS (Or.inl ⟨by rfl, ?_⟩) ?_
      rotate_left
      · intro w' hS'
        obtain ⟨e0, e1, e2, e3, e4, e5, e6, e7, e8, e9, e10, e11⟩ := hS'
        go_simp
        try with_reducible rfl
      try simp only [List.getElem_toArray, List.getElem_cons_succ, List.getElem_cons_zero, Act.put, List.setIfInBounds_toArray, List.set_cons_zero, List.set_cons_succ]
      refine anyE_ready [12] (by kernel_rfl) (by simp) (ReadyE.cons rfl (fun K' hK => ?_) ReadyE.nil)
      go_simp
      go_at_call 9
      refine (unhide HQ2 _ _ ((unhide HFJ2).old (unhide HB4))).mono ?_
      rintro ev V5 ⟨rfl, hbc⟩
      dsimp only
      try go_simp
      refine hK _ _ (fun _ => R12.keep hS hbc) ?_
      replace hS := R12.keep hS hbc
      clear hK K'
      have HB5 := hide (bthen (unhide HB4) hbc)
      clear hbc
      try simp only [List.getElem_toArray, List.getElem_cons_succ, List.getElem_cons_zero, Act.put, List.setIfInBounds_toArray, List.set_cons_zero, List.set_cons_succ]
      refine anyE_ready [14] (by kernel_rfl) (by simp) (ReadyE.cons rfl (fun K' hK => ?_) ReadyE.nil)
      go_simp
      go_at_call 31
      refine (unhide HSZ V5).mono ?_
      rintro ev V6 ⟨rfl, hbc⟩
      dsimp only
      try go_simp
      refine hK _ _ (fun _ => R12.keep hS hbc) ?_
      replace hS := R12.keep hS hbc
      clear hK K'
      have HB6 := hide (bthen (unhide HB5) hbc)
      clear hbc
      try simp only [List.getElem_toArray, List.getElem_cons_succ, List.getElem_cons_zero, Act.put, List.setIfInBounds_toArray, List.set_cons_zero, List.set_cons_succ]
      refine anyE_take 15 (v := ?_) rfl (by kernel_rfl) (by kernel_rfl) (by kernel_rfl) (by kernel_rfl) (fun _ _ _ h => h) hS (Or.inl ⟨by rfl, ?_⟩) ?_
      rotate_left
      · intro w' hS'
        obtain ⟨e0, e1, e2, e3, e4, e5, e6, e7, e8, e9, e10, e11⟩ := hS'
        go_simp
        try with_reducible rfl
      try simp only [List.getElem_toArray, List.getElem_cons_succ, List.getElem_cons_zero, Act.put, List.setIfInBounds_toArray, List.set_cons_zero, List.set_cons_succ]
      refine anyE_take 16 (v := ?_) rfl (by kernel_rfl) (by kernel_rfl) (by kernel_rfl) (by kernel_rfl) (fun _ _ _ h => h) hS (Or.inl ⟨by rfl, ?_⟩) ?_
      rotate_left
      · intro w' hS'
        obtain ⟨e0, e1, e2, e3, e4, e5, e6, e7, e8, e9, e10, e11⟩ := hS'
        go_simp
        try with_reducible rfl
      try simp only [List.getElem_toArray, List.getElem_cons_succ, List.getElem_cons_zero, Act.put, List.setIfInBounds_toArray, List.set_cons_zero, List.set_cons_succ]
      refine anyE_ready [17] (by kernel_rfl) (by simp) (ReadyE.cons rfl (fun K' hK => ?_) ReadyE.nil)
      go_simp
      go_at_call 32
      refine (unhide HPX V6).mono ?_
      rintro ev V7 ⟨rfl, hbc⟩
      dsimp only
      try go_simp
      refine hK _ _ (fun _ => R12.keep hS hbc) ?_
      replace hS := R12.keep hS hbc
      clear hK K'
      have HB7 := hide (bthen (unhide HB6) hbc)
      clear hbc
      try simp only [List.getElem_toArray, List.getElem_cons_succ, List.getElem_cons_zero, Act.put, List.setIfInBounds_toArray, List.set_cons_zero, List.set_cons_succ]
      refine anyE_take 18 (v := ?_) rfl (by kernel_rfl) (by kernel_rfl) (by kernel_rfl) (by kernel_rfl) (fun _ _ _ h => h) hS (Or.inl ⟨by rfl, ?_⟩) ?_
      rotate_left
      · intro w' hS'
        obtain ⟨e0, e1, e2, e3, e4, e5, e6, e7, e8, e9, e10, e11⟩ := hS'
        go_simp
        try with_reducible rfl
      try simp only [List.getElem_toArray, List.getElem_cons_succ, List.getElem_cons_zero, Act.put, List.setIfInBounds_toArray, List.set_cons_zero, List.set_cons_succ]
      refine anyE_take 19 (v := ?_) rfl (by kernel_rfl) (by kernel_rfl) (by kernel_rfl) (by kernel_rfl) (fun _ _ _ h => h) hS (Or.inl ⟨by rfl, ?_⟩) ?_
      rotate_left
      · intro w' hS'
        obtain ⟨e0, e1, e2, e3, e4, e5, e6, e7, e8, e9, e10, e11⟩ := hS'
        go_simp
        try with_reducible rfl
      try simp only [List.getElem_toArray, List.getElem_cons_succ, List.getElem_cons_zero, Act.put, List.setIfInBounds_toArray, List.set_cons_zero, List.set_cons_succ]
      refine anyE_ready [20] (by kernel_rfl) (by simp) (ReadyE.cons rfl (fun K' hK => ?_) ReadyE.nil)
      go_simp
      go_at_call 32
      refine (unhide HPZ V7).mono ?_
      rintro ev V8 ⟨rfl, hbc⟩
      dsimp only
      try go_simp
      refine hK _ _ (fun _ => R12.keep hS hbc) ?_
      replace hS := R12.keep hS hbc
      clear hK K'
      have HB8 := hide (bthen (unhide HB7) hbc)
      clear hbc
      try simp only [List.getElem_toArray, List.getElem_cons_succ, List.getElem_cons_zero, Act.put, List.setIfInBounds_toArray, List.set_cons_zero, List.set_cons_succ]
      refine anyE_take 21 (v := ?_) rfl (by kernel_rfl) (by kernel_rfl) (by kernel_rfl) (by kernel_rfl) (fun _ _ _ h => h) hS (Or.inl ⟨by rfl, ?_⟩) ?_
      rotate_left
      · intro w' hS'
        obtain ⟨e0, e1, e2, e3, e4, e5, e6, e7, e8, e9, e10, e11⟩ := hS'
        go_simp
        try with_reducible rfl
      try simp only [List.getElem_toArray, List.getElem_cons_succ, List.getElem_cons_zero, Act.put, List.setIfInBounds_toArray, List.set_cons_zero, List.set_cons_succ]
      refine anyE_take 22 (v := ?_) rfl (by kernel_rfl) (by kernel_rfl) (by kernel_rfl) (by kernel_rfl) (fun _ _ _ h => h) hS (Or.inl ⟨by rfl, ?_⟩) ?_
      rotate_left
      · intro w' hS'
        obtain ⟨e0, e1, e2, e3, e4, e5, e6, e7, e8, e9, e10, e11⟩ := hS'
        go_simp
        try with_reducible rfl
      try simp only [List.getElem_toArray, List.getElem_cons_succ, List.getElem_cons_zero, Act.put, List.setIfInBounds_toArray, List.set_cons_zero, List.set_cons_succ]
      refine anyE_take 23 (v := ?_) rfl (by kernel_rfl) (by kernel_rfl) (by kernel_rfl) (by kernel_rfl) (fun _ _ _ h => h) hS (Or.inl ⟨by rfl, ?_⟩) ?_
      rotate_left
      · intro w' hS'
        obtain ⟨e0, e1, e2, e3, e4, e5, e6, e7, e8, e9, e10, e11⟩ := hS'
        go_simp
        try with_reducible rfl
      try simp only [List.getElem_toArray, List.getElem_cons_succ, List.getElem_cons_zero, Act.put, List.setIfInBounds_toArray, List.set_cons_zero, List.set_cons_succ]
      refine anyE_take 24 (v := ?_) rfl (by kernel_rfl) (by kernel_rfl) (by kernel_rfl) (by kernel_rfl) (fun _ _ _ h => h) hS (Or.inl ⟨by rfl, ?_⟩) ?_
      rotate_left
      · intro w' hS'
        obtain ⟨e0, e1, e2, e3, e4, e5, e6, e7, e8, e9, e10, e11⟩ := hS'
        go_simp
        try with_reducible rfl
      try simp only [List.getElem_toArray, List.getElem_cons_succ, List.getElem_cons_zero, Act.put, List.setIfInBounds_toArray, List.set_cons_zero, List.set_cons_succ]
      refine anyE_take 25 (v := ?_) rfl (by kernel_rfl) (by kernel_rfl) (by kernel_rfl) (by kernel_rfl) (fun _ _ _ h => h) hS (Or.inl ⟨by rfl, ?_⟩) ?_
      rotate_left
      · intro w' hS'
        obtain ⟨e0, e1, e2, e3, e4, e5, e6, e7, e8, e9, e10, e11⟩ := hS'
        go_simp
        try with_reducible rfl
      try simp only [List.getElem_toArray, List.getElem_cons_succ, List.getElem_cons_zero, Act.put, List.setIfInBounds_toArray, List.set_cons_zero, List.set_cons_succ]
      refine anyE_take 26 (v := ?_) rfl (by kernel_rfl) (by kernel_rfl) (by kernel_rfl) (by kernel_rfl) (fun _ _ _ h => h) hS (Or.inl ⟨by rfl, ?_⟩) ?_
      rotate_left
      · intro w' hS'
        obtain ⟨e0, e1, e2, e3, e4, e5, e6, e7, e8, e9, e10, e11⟩ := hS'
        go_simp
        try with_reducible rfl
      try simp only [List.getElem_toArray, List.getElem_cons_succ, List.getElem_cons_zero, Act.put, List.setIfInBounds_toArray, List.set_cons_zero, List.set_cons_succ]
      refine anyE_take 27 (v := ?_) rfl (by kernel_rfl) (by kernel_rfl) (by kernel_rfl) (by kernel_rfl) (fun _ _ _ h => h) hS (Or.inl ⟨by rfl, ?_⟩) ?_
      rotate_left
      · intro w' hS'
        obtain ⟨e0, e1, e2, e3, e4, e5, e6, e7, e8, e9, e10, e11⟩ := hS'
        go_simp
        try with_reducible rfl
      try simp only [List.getElem_toArray, List.getElem_cons_succ, List.getElem_cons_zero, Act.put, List.setIfInBounds_toArray, List.set_cons_zero, List.set_cons_succ]
      refine anyE_ready [28] (by kernel_rfl) (by simp) (ReadyE.cons rfl (fun K' hK => ?_) ReadyE.nil)
      go_simp
      go_at_call 29
      refine (unhide HRB V8).mono ?_
      rintro ev V9 ⟨rfl, hbc⟩
      dsimp only
      try go_simp
      refine hK _ _ (fun _ => R12.keep hS hbc) ?_
      replace hS := R12.keep hS hbc
      clear hK K'
      have HB9 := hide (bthen (unhide HB8) hbc)
      clear hbc
      try simp only [List.getElem_toArray, List.getElem_cons_succ, List.getElem_cons_zero, Act.put, List.setIfInBounds_toArray, List.set_cons_zero, List.set_cons_succ]
      refine anyE_take 29 (v := ?_) rfl (by kernel_rfl) (by kernel_rfl) (by kernel_rfl) (by kernel_rfl) (fun _ _ _ h => h) hS (Or.inl ⟨by rfl, ?_⟩) ?_
      rotate_left
      · intro w' hS'
        obtain ⟨e0, e1, e2, e3, e4, e5, e6, e7, e8, e9, e10, e11⟩ := hS'
        go_simp
        try with_reducible rfl
      try simp only [List.getElem_toArray, List.getElem_cons_succ, List.getElem_cons_zero, Act.put, List.setIfInBounds_toArray, List.set_cons_zero, List.set_cons_succ]
      refine anyE_take 30 (v := ?_) rfl (by kernel_rfl) (by kernel_rfl) (by kernel_rfl) (by kernel_rfl) (fun _ _ _ h => h) hS (Or.inl ⟨by rfl, ?_⟩) ?_
      rotate_left
      · intro w' hS'
        obtain ⟨e0, e1, e2, e3, e4, e5, e6, e7, e8, e9, e10, e11⟩ := hS'
        go_simp
        try with_reducible rfl
      try simp only [List.getElem_toArray, List.getElem_cons_succ, List.getElem_cons_zero, Act.put, List.setIfInBounds_toArray, List.set_cons_zero, List.set_cons_succ]
      refine anyE_done (by kernel_rfl) ?_ _
      clear hS
      go_wp2_with fail
      go_ret
      have e : TX = RA ++ 32 :: 42 :: 32 :: RB := by rw [unhide HT, ← (unhide HRE).1, ← (unhide HRE).2]; simp
      exact ⟨by rw [e]; rfl, bthen (unhide HAL2) (unhide HB9)⟩
end Go.Proofs.YtepnafnljfjeoaaGreatDoor.Line
