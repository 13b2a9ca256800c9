/- The contract of the reference's Text, at any right tree. -/
import Derived.Test.YtepnafnljfjeoaaGreatDoorRfTx5
import Derived.Test.YtepnafnljfjeoaaGreatDoorRfTx6
import Derived.Test.YtepnafnljfjeoaaGreatDoorRfTx7
import Derived.Test.YtepnafnljfjeoaaGreatDoorRfTx8
namespace Go.Proofs.YtepnafnljfjeoaaGreatDoor.Line
open Go.ChangeShapes Go.WideShapes Go.ChangeAt Go.RowKit
open Ex (E)
set_option linter.unusedVariables false

theorem textL_app (k : Int) : ∀ (l m : List E) (i : Nat), textL k i (l ++ m) = textL k i l ++ textL k (i + l.length) m
  | [], m, i => by rw [textL]; rfl
  | y :: l, m, i => by
    rw [List.cons_append, textL, textL, textL_app k l m (i + 1), List.length_cons, show i + 1 + l.length = i + (l.length + 1) by omega]
    simp
theorem textL_one (i : Nat) (y : E) : textL 3 i [y] = (if i = 0 then [] else [44, 32]) ++ textT y := by
  rw [textL, textL]
  show (if i = 0 then [] else [44, 32]) ++ (textT y ++ []) = _
  rw [List.append_nil]
theorem textL_mem (k : Int) : ∀ (l : List E) (i : Nat) (z : E), z ∈ l → (textT z).length ≤ (textL k i l).length
  | [], _, _, h => by cases h
  | y :: l, i, z, h => by
    rw [textL, List.length_append, List.length_append]
    rcases List.mem_cons.1 h with rfl | h
    · have : (textT z).length ≤ (if brkT k i z.kind then [40] ++ textT z ++ [41] else textT z).length := by
        split
        · simp; omega
        · exact Nat.le_refl _
      omega
    · have := textL_mem k l (i + 1) z h
      omega
theorem child_len {x z : E} (h : z ∈ x.a) : (textT z).length ≤ (textT x).length := by
  cases x with
  | mk k n nm a =>
    rw [textT, List.length_append, List.length_append]
    have := textL_mem k a 0 z h
    omega
def R1 (p : Nat) (n : Int) (W : World) : Prop := W.cell? ⟨p, 1, none⟩ = some (.int .i64 n) ∧ True
theorem R1.keep {p : Nat} {n : Int} {W W' : World} (h : R1 p n W) (hb : Below W.heap.size W W') : R1 p n W' := ⟨(hb.cell (p := ⟨p, 1, none⟩) (cell_lt h.1)).trans h.1, trivial⟩
set_option maxHeartbeats 4000000 in
set_option maxRecDepth 100000 in
theorem rtext_var (x : E) (hk : x.kind = 2) (ht : textT x = x.name) : RTok x := by
  intro w sx hx
  obtain ⟨xa, xc, rfl⟩ := hx.shape
  have HBX := hide (bx_new w x (.slice xa x.a.length xc) ET)
  have AL := hide (alloc_below w (.cells #[.int .i64 x.kind, .int .i64 x.n, .string ⟨x.name.toArray⟩, .slice xa x.a.length xc] ET))
  have HT := hide ht
  have HK := hide hk
  clear hx ht hk
  generalize textT x = TX at *
  generalize x.a.length = xn at *
  go_enter Tryz.func9, Tryz.ntmps9
  go_upto_region 1 with fail
  generalize (w.alloc (.cells #[.int .i64 x.kind, .int .i64 x.n, .string ⟨x.name.toArray⟩, .slice xa xn xc] ET)) = W at *
  have e0 : W.cell? ⟨w.heap.size, 0, none⟩ = some (.int .i64 2) := by rw [(unhide HBX).c0, unhide HK]
  have e2 := (unhide HBX).c2
  go_wp2
  go_ret
  exact ⟨by rw [unhide HT]; rfl, unhide AL⟩
set_option maxHeartbeats 4000000 in
set_option maxRecDepth 100000 in
theorem rtext_least (x : E) (hk : x.kind = 1) (hn : x.n = -9223372036854775808) (ht : textT x = numT (-9223372036854775808)) : RTok x := by
  intro w sx hx
  obtain ⟨xa, xc, rfl⟩ := hx.shape
  have HBX := hide (bx_new w x (.slice xa x.a.length xc) ET)
  have AL := hide (alloc_below w (.cells #[.int .i64 x.kind, .int .i64 x.n, .string ⟨x.name.toArray⟩, .slice xa x.a.length xc] ET))
  have HT := hide ht
  have HK := hide (And.intro hk hn)
  clear hx ht hk hn
  generalize textT x = TX at *
  generalize x.a.length = xn at *
  go_enter Tryz.func9, Tryz.ntmps9
  go_upto_region 1 with fail
  generalize (w.alloc (.cells #[.int .i64 x.kind, .int .i64 x.n, .string ⟨x.name.toArray⟩, .slice xa xn xc] ET)) = W at *
  have e0 : W.cell? ⟨w.heap.size, 0, none⟩ = some (.int .i64 1) := by rw [(unhide HBX).c0, (unhide HK).1]
  have e1 : W.cell? ⟨w.heap.size, 1, none⟩ = some (.int .i64 (-9223372036854775808)) := by rw [(unhide HBX).c1, (unhide HK).2]
  go_wp2
  go_ret
  exact ⟨by rw [unhide HT]; rfl, unhide AL⟩
set_option maxHeartbeats 4000000 in
set_option maxRecDepth 100000 in
theorem rtext_num (x : E) (hk : x.kind = 1) (h1 : -9223372036854775808 < x.n) (h2 : x.n ≤ 9223372036854775807) (ht : textT x = rndT (Lib.itoa x.n) (decide (x.n < 0))) : RTok x := by
  intro w sx hx
  obtain ⟨xa, xc, rfl⟩ := hx.shape
  have HBX := hide (bx_new w x (.slice xa x.a.length xc) ET)
  have AL := hide (alloc_below w (.cells #[.int .i64 x.kind, .int .i64 x.n, .string ⟨x.name.toArray⟩, .slice xa x.a.length xc] ET))
  have hlen : (Lib.itoa x.n).length ≤ 21 := Lib.itoa_length_le x.n (by omega) h2
  have HDC := hide (fun V => decimalI_any x.n h1 h2 V)
  have hm : (x.n == -9223372036854775808) = false := by simp; omega
  have HK := hide hk
  generalize textT x = TX at *
  generalize Lib.itoa x.n = D at *
  have HRT := hide (fun (V : World) => round_any D true (by omega) V)
  have HRF := hide (fun (V : World) => round_any D false (by omega) V)
  have HT := hide ht
  clear hx ht hk hlen h1 h2
  generalize x.a.length = xn at *
  go_enter Tryz.func9, Tryz.ntmps9
  go_upto_region 1 with fail
  generalize (w.alloc (.cells #[.int .i64 x.kind, .int .i64 x.n, .string ⟨x.name.toArray⟩, .slice xa xn xc] ET)) = W at *
  have e0 : W.cell? ⟨w.heap.size, 0, none⟩ = some (.int .i64 1) := by rw [(unhide HBX).c0, unhide HK]
  have e1 := (unhide HBX).c1
  have hS0 : R1 w.heap.size x.n W := ⟨(unhide HBX).c1, trivial⟩
  go_upto_region 5 with fail
  clear e0 e1
  have HD := hide (below_drewN (Below.refl W.heap.size W) 1)
  by_cases c : x.n < 0
  · have hdc : decide (x.n < 0) = true := by simp [c]
    rw [hdc] at HT
    refine wp_regionE (R1 w.heap.size x.n) (fun j => decide (j < 8)) (by kernel_rfl) (hS0.keep (unhide HD)) (fun hS => ?_)
    refine anyE_take 0 (v := ?_) rfl (by kernel_rfl) (by kernel_rfl) (by kernel_rfl) (by kernel_rfl) (fun _ _ _ h => h) hS (Or.inl ⟨by rfl, ?_⟩) ?_
    rotate_left
    · intro w' hS'
      obtain ⟨e1, -⟩ := hS'
      go_simp
      try with_reducible rfl
    try simp only [List.getElem_toArray, List.getElem_cons_zero, Act.put, List.setIfInBounds_toArray, List.set_cons_zero, List.set_cons_succ]
    refine anyE_take 1 (v := ?_) rfl (by kernel_rfl) (by kernel_rfl) (by kernel_rfl) (by kernel_rfl) (fun _ _ _ h => h) hS (Or.inl ⟨by rfl, ?_⟩) ?_
    rotate_left
    · intro w' hS'
      obtain ⟨e1, -⟩ := hS'
      go_simp
      try with_reducible rfl
    try simp only [List.getElem_toArray, List.getElem_cons_succ, List.getElem_cons_zero, Act.put, List.setIfInBounds_toArray, List.set_cons_zero, List.set_cons_succ]
    refine anyE_take 3 (v := ?_) rfl (by kernel_rfl) (by kernel_rfl) (by kernel_rfl) (by kernel_rfl) (fun _ _ _ h => h) hS (Or.inl ⟨by rfl, ?_⟩) ?_
    rotate_left
    · intro w' hS'
      obtain ⟨e1, -⟩ := hS'
      go_simp
      try with_reducible rfl
    try simp only [List.getElem_toArray, List.getElem_cons_succ, List.getElem_cons_zero, Act.put, List.setIfInBounds_toArray, List.set_cons_zero, List.set_cons_succ]
    refine anyE_take 4 (v := ?_) rfl (by kernel_rfl) (by kernel_rfl) (by kernel_rfl) (by kernel_rfl) (fun _ _ _ h => h) hS (Or.inl ⟨by rfl, ?_⟩) ?_
    rotate_left
    · intro w' hS'
      obtain ⟨e1, -⟩ := hS'
      go_simp
      try with_reducible rfl
    try simp only [List.getElem_toArray, List.getElem_cons_succ, List.getElem_cons_zero, Act.put, List.setIfInBounds_toArray, List.set_cons_zero, List.set_cons_succ]
    refine anyE_take 5 (v := ?_) rfl (by kernel_rfl) (by kernel_rfl) (by kernel_rfl) (by kernel_rfl) (fun _ _ _ h => h) hS (Or.inl ⟨by rfl, ?_⟩) ?_
    rotate_left
    · intro w' hS'
      obtain ⟨e1, -⟩ := hS'
      go_simp
      try with_reducible rfl
    try simp only [List.getElem_toArray, List.getElem_cons_succ, List.getElem_cons_zero, Act.put, List.setIfInBounds_toArray, List.set_cons_zero, List.set_cons_succ]
    refine anyE_ready [2] (by kernel_rfl) (by simp) (ReadyE.cons rfl (fun K' hK => ?_) ReadyE.nil)
    go_simp
    go_at_call 30
    refine (unhide HDC W.drew).mono ?_
    rintro ev V1 ⟨rfl, hbc⟩
    dsimp only
    try go_simp
    refine hK _ _ (fun _ => R1.keep hS hbc) ?_
    replace hS := R1.keep hS hbc
    clear hK K'
    have HB1 := hide (bthen (unhide HD) hbc)
    clear hbc
    try simp only [List.getElem_toArray, List.getElem_cons_succ, List.getElem_cons_zero, Act.put, List.setIfInBounds_toArray, List.set_cons_zero, List.set_cons_succ]
    refine anyE_ready [6] (by kernel_rfl) (by simp) (ReadyE.cons rfl (fun K' hK => ?_) ReadyE.nil)
    go_simp
    go_at_call 29
    refine (unhide HRT V1).mono ?_
    rintro ev V2 ⟨rfl, hbc⟩
    dsimp only
    try go_simp
    refine hK _ _ (fun _ => R1.keep hS hbc) ?_
    replace hS := R1.keep hS hbc
    clear hK K'
    have HB2 := hide (bthen (unhide HB1) hbc)
    clear hbc
    try simp only [List.getElem_toArray, List.getElem_cons_succ, List.getElem_cons_zero, Act.put, List.setIfInBounds_toArray, List.set_cons_zero, List.set_cons_succ]
    refine anyE_take 7 (v := ?_) rfl (by kernel_rfl) (by kernel_rfl) (by kernel_rfl) (by kernel_rfl) (fun _ _ _ h => h) hS (Or.inl ⟨by rfl, ?_⟩) ?_
    rotate_left
    · intro w' hS'
      obtain ⟨e1, -⟩ := hS'
      go_simp
      try with_reducible rfl
    try simp only [List.getElem_toArray, List.getElem_cons_succ, List.getElem_cons_zero, Act.put, List.setIfInBounds_toArray, List.set_cons_zero, List.set_cons_succ]
    refine anyE_done (by kernel_rfl) ?_ _
    clear hS
    go_wp2_with fail
    go_ret
    exact ⟨by rw [unhide HT]; rfl, bthen (unhide AL) (unhide HB2)⟩
  · have hdc : decide (x.n < 0) = false := by simp [c]
    rw [hdc] at HT
    refine wp_regionE (R1 w.heap.size x.n) (fun j => decide (j < 8)) (by kernel_rfl) (hS0.keep (unhide HD)) (fun hS => ?_)
    refine anyE_take 0 (v := ?_) rfl (by kernel_rfl) (by kernel_rfl) (by kernel_rfl) (by kernel_rfl) (fun _ _ _ h => h) hS (Or.inl ⟨by rfl, ?_⟩) ?_
    rotate_left
    · intro w' hS'
      obtain ⟨e1, -⟩ := hS'
      go_simp
      try with_reducible rfl
    try simp only [List.getElem_toArray, List.getElem_cons_zero, Act.put, List.setIfInBounds_toArray, List.set_cons_zero, List.set_cons_succ]
    refine anyE_take 1 (v := ?_) rfl (by kernel_rfl) (by kernel_rfl) (by kernel_rfl) (by kernel_rfl) (fun _ _ _ h => h) hS (Or.inl ⟨by rfl, ?_⟩) ?_
    rotate_left
    · intro w' hS'
      obtain ⟨e1, -⟩ := hS'
      go_simp
      try with_reducible rfl
    try simp only [List.getElem_toArray, List.getElem_cons_succ, List.getElem_cons_zero, Act.put, List.setIfInBounds_toArray, List.set_cons_zero, List.set_cons_succ]
    refine anyE_take 3 (v := ?_) rfl (by kernel_rfl) (by kernel_rfl) (by kernel_rfl) (by kernel_rfl) (fun _ _ _ h => h) hS (Or.inl ⟨by rfl, ?_⟩) ?_
    rotate_left
    · intro w' hS'
      obtain ⟨e1, -⟩ := hS'
      go_simp
      try with_reducible rfl
    try simp only [List.getElem_toArray, List.getElem_cons_succ, List.getElem_cons_zero, Act.put, List.setIfInBounds_toArray, List.set_cons_zero, List.set_cons_succ]
    refine anyE_take 4 (v := ?_) rfl (by kernel_rfl) (by kernel_rfl) (by kernel_rfl) (by kernel_rfl) (fun _ _ _ h => h) hS (Or.inl ⟨by rfl, ?_⟩) ?_
    rotate_left
    · intro w' hS'
      obtain ⟨e1, -⟩ := hS'
      go_simp
      try with_reducible rfl
    try simp only [List.getElem_toArray, List.getElem_cons_succ, List.getElem_cons_zero, Act.put, List.setIfInBounds_toArray, List.set_cons_zero, List.set_cons_succ]
    refine anyE_take 5 (v := ?_) rfl (by kernel_rfl) (by kernel_rfl) (by kernel_rfl) (by kernel_rfl) (fun _ _ _ h => h) hS (Or.inl ⟨by rfl, ?_⟩) ?_
    rotate_left
    · intro w' hS'
      obtain ⟨e1, -⟩ := hS'
      go_simp
      try with_reducible rfl
    try simp only [List.getElem_toArray, List.getElem_cons_succ, List.getElem_cons_zero, Act.put, List.setIfInBounds_toArray, List.set_cons_zero, List.set_cons_succ]
    refine anyE_ready [2] (by kernel_rfl) (by simp) (ReadyE.cons rfl (fun K' hK => ?_) ReadyE.nil)
    go_simp
    go_at_call 30
    refine (unhide HDC W.drew).mono ?_
    rintro ev V1 ⟨rfl, hbc⟩
    dsimp only
    try go_simp
    refine hK _ _ (fun _ => R1.keep hS hbc) ?_
    replace hS := R1.keep hS hbc
    clear hK K'
    have HB1 := hide (bthen (unhide HD) hbc)
    clear hbc
    try simp only [List.getElem_toArray, List.getElem_cons_succ, List.getElem_cons_zero, Act.put, List.setIfInBounds_toArray, List.set_cons_zero, List.set_cons_succ]
    refine anyE_ready [6] (by kernel_rfl) (by simp) (ReadyE.cons rfl (fun K' hK => ?_) ReadyE.nil)
    go_simp
    go_at_call 29
    refine (unhide HRF V1).mono ?_
    rintro ev V2 ⟨rfl, hbc⟩
    dsimp only
    try go_simp
    refine hK _ _ (fun _ => R1.keep hS hbc) ?_
    replace hS := R1.keep hS hbc
    clear hK K'
    have HB2 := hide (bthen (unhide HB1) hbc)
    clear hbc
    try simp only [List.getElem_toArray, List.getElem_cons_succ, List.getElem_cons_zero, Act.put, List.setIfInBounds_toArray, List.set_cons_zero, List.set_cons_succ]
    refine anyE_take 7 (v := ?_) rfl (by kernel_rfl) (by kernel_rfl) (by kernel_rfl) (by kernel_rfl) (fun _ _ _ h => h) hS (Or.inl ⟨by rfl, ?_⟩) ?_
    rotate_left
    · intro w' hS'
      obtain ⟨e1, -⟩ := hS'
      go_simp
      try with_reducible rfl
    try simp only [List.getElem_toArray, List.getElem_cons_succ, List.getElem_cons_zero, Act.put, List.setIfInBounds_toArray, List.set_cons_zero, List.set_cons_succ]
    refine anyE_done (by kernel_rfl) ?_ _
    clear hS
    go_wp2_with fail
    go_ret
    exact ⟨by rw [unhide HT]; rfl, bthen (unhide AL) (unhide HB2)⟩
set_option maxHeartbeats 8000000 in
set_option maxRecDepth 100000 in
theorem rtext_elem (x : E) (hk : x.kind = 3) (ht : textT x = x.name ++ [40] ++ textL 3 0 x.a ++ [41]) (hl : (textT x).length ≤ 100000) (h4 : x.a.length ≤ 4) (hq : ∀ z ∈ x.a, RTok z) : RTok x := by
  intro w sx hx
  obtain ⟨xa, xc, rfl⟩ := hx.shape
  have HX := hide (hx.old (alloc_below w (.cells #[.int .i64 x.kind, .int .i64 x.n, .string ⟨x.name.toArray⟩, .slice xa x.a.length xc] ET)))
  have HBX := hide (bx_new w x (.slice xa x.a.length xc) ET)
  have AL := hide (alloc_below w (.cells #[.int .i64 x.kind, .int .i64 x.n, .string ⟨x.name.toArray⟩, .slice xa x.a.length xc] ET))
  have HPR : Hid (∀ i, (x.name ++ [40] ++ textL 3 0 (x.a.take i)).length + 1 ≤ 100000) := hide (fun i => by
    have h := congrArg List.length (textL_app 3 (x.a.take i) (x.a.drop i) 0)
    rw [List.take_append_drop, List.length_append] at h
    rw [ht, List.length_append, List.length_append] at hl
    rw [List.length_append]
    simp only [List.length_cons, List.length_nil] at hl
    omega)
  have hnm : x.name.length ≤ 100000 := by rw [ht] at hl; simp at hl; omega
  have c0 : (⟨x.name.toArray⟩ : ByteArray) ++ ⟨#[40]⟩ = ⟨(x.name ++ [40]).toArray⟩ := cat2 _ [40]
  have HT := hide ht
  have HK := hide hk
  have HQ := hide hq
  have h00 : x.name ++ [40] ++ textL 3 0 (x.a.take 0) = x.name ++ [40] := by rw [List.take_zero, textL, List.append_nil]
  have H00 := hide h00
  clear hx ht hk hq hl h00
  generalize textT x = TX at *
  generalize hxn : x.a.length = xn at *
  have HN := hide hxn
  clear hxn
  go_enter Tryz.func9, Tryz.ntmps9
  go_upto_region 1 with fail
  generalize (w.alloc (.cells #[.int .i64 x.kind, .int .i64 x.n, .string ⟨x.name.toArray⟩, .slice xa xn xc] ET)) = W at *
  have e0 : W.cell? ⟨w.heap.size, 0, none⟩ = some (.int .i64 3) := by rw [(unhide HBX).c0, unhide HK]
  have e2 := (unhide HBX).c2
  have e3 := (unhide HBX).c3
  have hlt := (unhide HBX).lt
  go_wp2_with fail
  clear e0 e2 c0
  go_loopw [3, 4] (fun sv q wr => ∃ (i : Nat), i ≤ xn ∧ q = .int .i64 i ∧ sv = .string ⟨(x.name ++ [40] ++ textL 3 0 (x.a.take i)).toArray⟩ ∧ Hid (Below W.heap.size W wr)) (fun _ q _ => xn - (intOf q).toNat)
  case atStart => exact ⟨0, Nat.zero_le _, rfl, by rw [unhide H00], hide (Below.refl _ _)⟩
  case round =>
    obtain ⟨i, hi, rfl, rfl, HI⟩ := hrel
    have hpi := unhide HPR i
    have b3 : wr.cell? ⟨w.heap.size, 3, none⟩ = some (.slice xa xn xc) := ((unhide HI).cell (p := ⟨w.heap.size, 3, none⟩) hlt).trans e3
    by_cases hin : i < xn
    · have hin' : (i : Int) < xn := by omega
      have hix : i < x.a.length := by rw [unhide HN]; exact hin
      obtain ⟨bx, ox, cx, fx, hvx, hcx, hmx, hcellx, hforx⟩ := ((unhide HX).old (unhide HI)).at (by omega)
      injection hvx with hvx1 hvx2 hvx3
      subst hvx1
      obtain ⟨d0, d1, d2, d3⟩ := hcellx i hix
      have hsx := hforx i hix
      obtain ⟨ua, uc, hua⟩ := hsx.shape
      rw [hua] at d3 hsx
      have HCA := hide (unhide HQ _ (List.getElem_mem hix) wr _ hsx)
      have hnx : x.name ++ [40] ++ textL 3 0 (x.a.take (i + 1)) = x.name ++ [40] ++ textL 3 0 (x.a.take i) ++ ((if i = 0 then [] else [44, 32]) ++ textT x.a[i]) := by
        rw [List.take_succ_eq_append_getElem hix, textL_app, textL_one, List.length_take, Nat.min_eq_left (by omega)]
        simp
      have hpn := unhide HPR (i + 1)
      generalize hS2 : x.name ++ [40] ++ textL 3 0 (x.a.take (i + 1)) = S2 at *
      generalize x.name ++ [40] ++ textL 3 0 (x.a.take i) = S1 at *
      generalize textT x.a[i] = TZ at *
      have h9 := congrArg List.length hnx
      rw [List.length_append, List.length_append] at h9
      have hll : S1.length ≤ 100002 := by omega
      have hll2 : TZ.length ≤ 100002 := by omega
      have HS2 := hide hS2
      have HNX := hide hnx
      clear hS2 h9
      clear hcellx hforx hsx hua hvx2 hvx3 hcx hmx hnx hpi hpn
      by_cases hi0 : i = 0
      · subst hi0
        simp only [Nat.zero_mul, Nat.add_zero] at d0 d1 d2 d3
        have cc : (⟨S1.toArray⟩ : ByteArray) ++ ⟨TZ.toArray⟩ = ⟨S2.toArray⟩ := by rw [unhide HNX]; exact cat2 _ _
        go_wp2_with fail
        refine (unhide HCA).mono ?_
        rintro ev w2 ⟨rfl, hbe⟩
        go_wp2
        go_roundw
        case rel => exact ⟨1, by omega, by go_num, by rw [show (1 : Nat) = 0 + 1 from rfl, unhide HS2], hide (bthen (unhide HI) hbe)⟩
        case measure => simp [intOf]; omega
      · have hi0' : (0 : Int) < i := by omega
        have c1 : (⟨S1.toArray⟩ : ByteArray) ++ ⟨#[44, 32]⟩ = ⟨(S1 ++ [44, 32]).toArray⟩ := cat2 _ [44, 32]
        have cc : (⟨(S1 ++ [44, 32]).toArray⟩ : ByteArray) ++ ⟨TZ.toArray⟩ = ⟨S2.toArray⟩ := by rw [unhide HNX, if_neg hi0]; have := cat2 (S1 ++ [44, 32]) TZ; simpa using this
        have hll3 : (S1 ++ [44, 32]).length ≤ 100004 := by simp; omega
        go_wp2_with fail
        refine (unhide HCA).mono ?_
        rintro ev w2 ⟨rfl, hbe⟩
        go_wp2
        go_roundw
        case rel => exact ⟨i + 1, by omega, by go_num, by rw [unhide HS2], hide (bthen (unhide HI) hbe)⟩
        case measure => simp [intOf]; omega
    · have hin' : ¬ (i : Int) < xn := by omega
      obtain rfl : i = xn := by omega
      have hfin : x.name ++ [40] ++ textL 3 0 (x.a.take i) ++ [41] = TX := by rw [List.take_of_length_le (by rw [unhide HN]; exact Nat.le_refl _), ← unhide HT]
      generalize x.name ++ [40] ++ textL 3 0 (x.a.take i) = S1 at *
      have cc : (⟨S1.toArray⟩ : ByteArray) ++ ⟨#[41]⟩ = ⟨(S1 ++ [41]).toArray⟩ := cat2 _ [41]
      have hll : S1.length ≤ 100002 := by omega
      have HF := hide hfin
      clear hfin
      go_wp2
      go_ret
      exact ⟨by rw [← unhide HF]; rfl, bthen (unhide AL) (unhide HI)⟩
theorem refText_any : ∀ x : E, RX x → NumX x → (textT x).length ≤ 100000 → RTok x := by
  intro x h
  induction h with
  | num x hk hs ha =>
    intro hn hl
    cases x with
    | mk k n nm a =>
      obtain rfl : k = 1 := hk
      obtain rfl : a = [] := ha
      have ht : textT (.mk 1 n nm []) = numT n := by
        rw [textT, textL]
        show numT n ++ ([] ++ []) = _
        simp
      by_cases c1 : n = -9223372036854775808
      · subst c1; exact rtext_least _ rfl rfl ht
      · refine rtext_num _ rfl (by have := hn.num.1; simp only [E.n] at this ⊢; omega) hn.num.2 ?_
        rw [ht]
        unfold numT rndT
        show (if n = -9223372036854775808 then _ else if n < 0 then 40 :: (Lib.itoa n ++ [41]) else Lib.itoa n) = if decide (n < 0) then [40] ++ Lib.itoa n ++ [41] else Lib.itoa n
        rw [if_neg c1]
        by_cases c2 : n < 0
        · rw [if_pos c2, if_pos (by simp [c2])]; rfl
        · rw [if_neg c2, if_neg (by simp [c2])]
  | var x hk hn hs ha =>
    intro _ hl
    refine rtext_var x hk ?_
    cases x with
    | mk k n nm a =>
      obtain rfl : k = 2 := hk
      obtain rfl : a = [] := ha
      rw [textT, textL]
      show nm ++ ([] ++ []) = nm
      simp
  | elem x hk hn hs h1 h4 h ih =>
    intro hN hl
    refine rtext_elem x hk ?_ hl h4 (fun z hz => ih z hz (hN.part z hz) (Nat.le_trans (child_len hz) hl))
    cases x with
    | mk k n nm a =>
      obtain rfl : k = 3 := hk
      rw [textT]
      show (nm ++ [40]) ++ (textL 3 0 a ++ [41]) = nm ++ [40] ++ textL 3 0 a ++ [41]
      simp
  | neg x hk hn hs h1 h ih =>
    intro hN hl
    obtain ⟨z, hz⟩ := List.length_eq_one_iff.1 h1
    have hm : z ∈ x.a := by simp [hz]
    have hlz := Nat.le_trans (child_len hm) hl
    exact rtext_neg x z hk hz (h z hm) (ih z hm (hN.part z hm) hlz) hlz
  | two x hk hn hs h1 h ih =>
    intro hN hl
    obtain ⟨y, z, hz⟩ : ∃ y z, x.a = [y, z] := by
      match h2 : x.a, h1 with
      | [y, z], _ => exact ⟨y, z, rfl⟩
    have hm : y ∈ x.a := by simp [hz]
    have hm2 : z ∈ x.a := by simp [hz]
    have ly := Nat.le_trans (child_len hm) hl
    have lz := Nat.le_trans (child_len hm2) hl
    have qy := ih y hm (hN.part y hm) ly
    have qz := ih z hm2 (hN.part z hm2) lz
    rcases hk with hk | hk | hk | hk
    · exact rtext_5 x y z hk hz (h y hm) (h z hm2) qy qz ly lz
    · exact rtext_6 x y z hk hz (h y hm) (h z hm2) qy qz ly lz
    · exact rtext_7 x y z hk hz (h y hm) (h z hm2) qy qz ly lz
    · exact rtext_8 x y z hk hz (h y hm) (h z hm2) qy qz ly lz
end Go.Proofs.YtepnafnljfjeoaaGreatDoor.Line
