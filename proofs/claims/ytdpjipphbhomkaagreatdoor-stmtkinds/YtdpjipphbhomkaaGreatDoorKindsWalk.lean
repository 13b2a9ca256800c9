/- StmtKinds, walked. -/
import Derived.Test.YtdpjipphbhomkaaGreatDoorPlainKd
import Derived.Test.YtdpjipphbhomkaaGreatDoorKnAll
import Derived.Deep.RegionHeld3
namespace Go.Proofs.YtdpjipphbhomkaaGreatDoor.Line
open Go.ChangeShapes Go.WideShapes Go.ChangeAt Go.RowKit
open Ex (E St)
set_option linter.unusedVariables false

/-- one step of a region that draws: a load of a whole statement, where its guard says yes -/
theorem any_loadRow {md : Region.Mode} {ops : Array Oper} {op : Oper} {a : Act} {w : World} {Q : Exit → Act → World → Prop} {fuel : Nat} {l : Array Bool} (hw : Region.wanted op (yielded ops a.tmps) = true) (x : Operand) (ho : op.op = .load STT x) (g : Nat) (c : Array Value)
    (hx : a.eval x = .pointer (some ⟨g, 0, none⟩)) (hs : StAt w g c) (h : wpAny Tryz.prog md ops Q fuel l (a.put op.dst (.agg c)) w) :
    ∀ K' : Act → World → Prop, (∀ a w, wpAny Tryz.prog md ops Q fuel l a w → K' a w) → if Region.wanted op (yielded ops a.tmps) = true then Oper.wp Tryz.prog op a w K' Q else K' (a.put op.dst undef) w := fun K' hK => by
  rw [if_pos hw]
  exact wp_load_row STT x ho g hx STT c (0, 0) _ hs.1 Tryz.underlying30 rfl (by rw [hs.2]; exact infoS) (hK _ _ h)
abbrev kdRow : Array Value := #[.string ⟨#[]⟩, .string ⟨#[105, 110, 116, 101, 103, 101, 114, 32, 120]⟩, .string ⟨#[120, 32, 61, 32, 49]⟩, .string ⟨#[100, 111, 32, 105, 32, 61, 32, 49, 44, 32, 50]⟩, .string ⟨#[101, 110, 100, 32, 100, 111]⟩, .string ⟨#[105, 102, 32, 40, 120, 32, 60, 32, 49, 41, 32, 116, 104, 101, 110]⟩, .string ⟨#[101, 108, 115, 101]⟩, .string ⟨#[101, 110, 100, 32, 105, 102]⟩, .string ⟨#[114, 101, 97, 100, 32, 120]⟩, .string ⟨#[112, 114, 105, 110, 116, 32, 120]⟩]
theorem kdRow_at (k : Nat) (hk : k < 10) : kdRow[k]? = some (.string ⟨(kdT k).toArray⟩) := by
  match k, hk with
  | 0, _ | 1, _ | 2, _ | 3, _ | 4, _ | 5, _ | 6, _ | 7, _ | 8, _ | 9, _ => rfl
def spN (j : Nat) : List UInt8 := List.replicate j 32
set_option maxHeartbeats 16000000 in
set_option maxRecDepth 100000 in
theorem kinds_true (HK : Known6Spec) (u m : Nat) (hu : u ≤ 255) (hm : m ≤ 255) (note : Bool) (hno : note = true) (w : World) (hG : Glob w) (hT : Tab w) : Calls Tryz.prog 4 #[.int .u8 u, .int .u8 m, .bool note] w fun e w' => e = .returned (.bool true) ∧ Below w.heap.size w w' := by
  have hw0 := cell_lt hG
  obtain ⟨k, hk⟩ : ∃ k, u % 10 = k := ⟨_, rfl⟩
  obtain ⟨n, hn⟩ : ∃ n, m % 20 = n := ⟨_, rfl⟩
  have hk1 : k < 10 := by omega
  have hn1 : n < 20 := by omega
  have eu : (u : Int) % 10 = (k : Int) := by omega
  have em : (m : Int) % 20 = (n : Int) := by omega
  have HP : Hid (∀ W, Below w.heap.size w W → Calls Tryz.prog 8 #[.string ⟨(kdLine k n note).toArray⟩] W fun e w' => ∃ B cs, W.heap.size < B ∧ Holds B w' cs (kdP k) ∧ Below W.heap.size W w' ∧ e = .returned (.tuple #[.agg cs, .nilIface])) := hide (fun W h => parse_good (kd_line k n hk1 hn1 note).1 (kd_line k n hk1 hn1 note).2 W (hG.below h) (by have := h.size; omega))
  have HX : Hid (∀ B cs W, Holds B W cs (kdP k) → Below w.heap.size w W → Calls Tryz.prog 13 #[.agg cs] W fun e w' => e = .returned (.string ⟨(kdT k).toArray⟩) ∧ Below W.heap.size W w') := hide (fun B cs W h hb => by have := text_all h (kd_ok k hk1) (hT.below hb); rw [(kd_text ⟨k, hk1⟩).1] at this; exact this)
  have HKD : Hid (kindN (kdP k) = k) := hide (kd_text ⟨k, hk1⟩).2
  have HKN := hide (HK w hG hT)
  have HRA := hide (kdRow_at k hk1)
  have HLL := hide (kdT_len k)
  clear HK hG hT hw0
  go_enter Tryz.func4, Tryz.ntmps4
  go_wp2_with fail
  refine (unhide HKN).mono ?_
  rintro e w1 ⟨rfl, hb1⟩
  have a1 := alloc_below w1 (.cells kdRow 9)
  have H1 := hide (And.intro (bthen hb1 a1) (show (w1.alloc (.cells kdRow 9)).cell? ⟨w1.heap.size, k, none⟩ = some (.string ⟨(kdT k).toArray⟩) from by rw [← unhide HRA]; simp))
  clear hb1 a1 HKN HRA
  go_wp2_with fail
  generalize hB1 : w1.heap.size = B1 at *
  generalize w1.alloc (.cells kdRow 9) = W1 at *
  clear hB1 hk hn hu hm
  have HL9 : Hid (kdLine k n note = (if note = true then (spN n ++ kdT k) ++ kdNote else spN n ++ kdT k) ++ [10]) := hide rfl
  generalize kdLine k n note = KL at *
  generalize kdT k = kt at *
  go_loopw [9, 10] (fun s i wr => ∃ j : Nat, s = .string ⟨(spN j).toArray⟩ ∧ i = .int .i64 j ∧ j ≤ n ∧ wr = W1) (fun _ i _ => n - (intOf i).toNat)
  case atStart => exact ⟨0, rfl, rfl, Nat.zero_le _, rfl⟩
  case round =>
    obtain ⟨j, rfl, rfl, hj, rfl⟩ := hrel
    by_cases hlt : j < n
    · have hlt2 : (j : Int) < n := by omega
      have c2 : (⟨(spN j).toArray⟩ : ByteArray) ++ ⟨#[32]⟩ = ⟨(spN (j + 1)).toArray⟩ := by rw [show spN (j + 1) = spN j ++ [32] from List.replicate_succ']; exact cat2 _ [32]
      have hl : (spN j).length ≤ 20 := by unfold spN; rw [List.length_replicate]; omega
      go_wp2_with fail
      go_roundw
      case rel => exact ⟨j + 1, rfl, by go_num, by omega, by first | rfl | trivial⟩
      case measure => simp [intOf]; omega
    · obtain rfl : n = j := by omega
      have hlt2 : ¬ (n : Int) < n := by omega
      have HRL : Hid ((spN n).length ≤ 20) := hide (by unfold spN; rw [List.length_replicate]; omega)
      generalize spN n = sp at *
      have hl1 := unhide HRL
      have hl2 := unhide HLL
      have hkk : (k : Int) < 10 := by omega
      have m0 := (unhide H1).2
      have dc1 : (⟨sp.toArray⟩ : ByteArray) ++ ⟨kt.toArray⟩ = ⟨(sp ++ kt).toArray⟩ := cat2 _ _
      have hl3 : (sp ++ kt).length ≤ 40 := by rw [List.length_append]; omega
      generalize sp ++ kt = sk at *
      cases note with
      | true =>
        have dc3 : (⟨sk.toArray⟩ : ByteArray) ++ ⟨#[32, 33, 32, 112, 114, 105, 110, 116, 32, 53]⟩ = ⟨(sk ++ kdNote).toArray⟩ := cat2 _ kdNote
        have hl4 : (sk ++ kdNote).length ≤ 50 := by rw [List.length_append]; show sk.length + 10 ≤ 50; omega
        have dc4 : (⟨(sk ++ kdNote).toArray⟩ : ByteArray) ++ ⟨#[10]⟩ = ⟨KL.toArray⟩ := by rw [unhide HL9, if_pos rfl]; exact cat2 _ [10]
        generalize sk ++ kdNote = sn at *
        clear HL9
        go_wp2_with fail
        clear m0
        refine (unhide HP wr (unhide H1).1).mono ?_
        rintro e w3 ⟨B3, cs3, hB3, hh3, hb3, rfl⟩
        have hc3 := hh3.size
        have a3 := alloc_below w3 (.cells cs3 STT)
        have h13 := bthen hb3 a3
        have hkd := hh3.kind
        rw [unhide HKD] at hkd
        have m2 : (w3.alloc (.cells cs3 STT)).cell? ⟨B1, k, none⟩ = some (.string ⟨kt.toArray⟩) := (h13.cell (p := ⟨B1, k, none⟩) (cell_lt (unhide H1).2)).trans (unhide H1).2
        have H3 := hide (And.intro (bthen (unhide H1).1 h13) (And.intro (StAt.new w3 cs3 hc3.1) (hh3.below a3)))
        have HST := hide (StAt.new w3 cs3 hc3.1)
        obtain ⟨hz3, ho3⟩ := hc3
        clear a3 hb3 hh3 HP H1 h13
        go_wp2_with (refine wpList_storeNew rfl _ _ rfl _ _ rfl rfl rfl hz3 ho3 ?_)
        generalize hq3 : w3.heap.size = q3 at *
        generalize w3.alloc (.cells cs3 STT) = W3 at *
        clear hq3
        have hdr : Below W3.heap.size W3 W3.drew := below_drewN (Below.refl _ _) 1
        have HSA : Hid (StAt W3.drew q3 cs3) := hide ((unhide H3).2.1.keep (hdr.block _ (unhide H3).2.1.lt))
        have HXX : Hid (Calls Tryz.prog 13 #[.agg cs3] W3.drew fun e w2 => e = .returned (.string ⟨kt.toArray⟩) ∧ w2.cell? ⟨B1, k, none⟩ = some (.string ⟨kt.toArray⟩) ∧ Below w.heap.size w w2) := hide ((unhide HX _ _ W3.drew ((unhide H3).2.2.below hdr) (bthen (unhide H3).1 hdr)).mono fun e w2 h => ⟨h.1, ((bthen hdr h.2).cell (p := ⟨B1, k, none⟩) (cell_lt m2)).trans m2, bthen (unhide H3).1 (bthen hdr h.2)⟩)
        have m1 : W3.cell? ⟨q3, 0, none⟩ = some (.int .i64 k) := (unhide HST).cell 0 _ hkd
        have m2d : W3.drew.cell? ⟨B1, k, none⟩ = some (.string ⟨kt.toArray⟩) := (hdr.cell (p := ⟨B1, k, none⟩) (cell_lt m2)).trans m2
        clear hdr HX HST hkd H3 hz3 ho3
        refine wp_region_any (by kernel_rfl) ?_
        change wpAny _ _ _ _ _ _ _ (World.drew _)
        refine wpAny_take (i := 0) (v := ?_) rfl (by kernel_rfl) (by kernel_rfl) (by kernel_rfl) (fun _ _ _ h => h) (Or.inl ⟨by rfl, ?_⟩) ?_
        rotate_left
        · intro w
          go_simp
          try with_reducible rfl
        refine wpAny_take (i := 1) (v := ?_) rfl (by kernel_rfl) (by kernel_rfl) (by kernel_rfl) (fun _ _ _ h => h) (Or.inl ⟨by rfl, ?_⟩) ?_
        rotate_left
        · intro w
          go_simp
          try with_reducible rfl
        refine wpAny_take (i := 2) (v := ?_) rfl (by kernel_rfl) (by kernel_rfl) (by kernel_rfl) (fun _ _ _ h => h) (Or.inl ⟨by rfl, ?_⟩) ?_
        rotate_left
        · intro w
          go_simp
          try with_reducible rfl
        refine wpAny_take (i := 3) (v := ?_) rfl (by kernel_rfl) (by kernel_rfl) (by kernel_rfl) (fun _ _ _ h => h) (Or.inl ⟨by rfl, ?_⟩) ?_
        rotate_left
        · intro w
          go_simp
          try with_reducible rfl
        refine wpAny_take (i := 5) (v := ?_) rfl (by kernel_rfl) (by kernel_rfl) (by kernel_rfl) (fun _ _ _ h => h) (Or.inl ⟨by rfl, ?_⟩) ?_
        rotate_left
        · intro w
          go_simp
          try with_reducible rfl
        refine wpAny_ready (rs := [4]) (by kernel_rfl) (by simp) ?_
        refine AllReady.cons (o := { dst := some 49, op := .load 3 (.tmp 48), type := 3, pos := "law.go:104", after := #[{ on := 3, ground := Ground.data }, { on := 2, ground := Ground.guard }], guard := some (2, true) }) (by kernel_rfl) (fun K hK => ?_) AllReady.nil
        go_simp
        refine hK _ _ ?_
        clear hK K
        refine wpAny_ready (rs := [6]) (by kernel_rfl) (by simp) ?_
        refine AllReady.cons (o := { dst := some 51, op := .binOp .eql 3 (.tmp 49) (.tmp 50) 3, type := 4, pos := "law.go:104", after := #[{ on := 4, ground := Ground.data }, { on := 5, ground := Ground.data }, { on := 2, ground := Ground.guard }], guard := some (2, true) }) (by kernel_rfl) (fun K hK => ?_) AllReady.nil
        go_simp
        refine hK _ _ ?_
        clear hK K
        refine wpAny_ready (rs := [7]) (by kernel_rfl) (by simp) ?_
        refine AllReady.cons (o := { dst := some 52, op := .pick (.tmp 47) (.tmp 51) (.const (.bool false)), type := 4, pos := "law.go:104", after := #[{ on := 2, ground := Ground.data }, { on := 6, ground := Ground.data }], guard := none }) (by kernel_rfl) (fun K hK => ?_) AllReady.nil
        go_simp
        refine hK _ _ ?_
        clear hK K
        refine wpAny_ready (rs := [8]) (by kernel_rfl) (by simp) ?_
        refine AllReady.cons (o := { dst := some 53, op := .move (.tmp 52), type := 4, pos := "law.go:104", after := #[{ on := 7, ground := Ground.data }, { on := 2, ground := Ground.chain }], guard := none }) (by kernel_rfl) (fun K hK => ?_) AllReady.nil
        go_simp
        refine hK _ _ ?_
        clear hK K
        refine wpAny_take (i := 11) (v := ?_) rfl (by kernel_rfl) (by kernel_rfl) (by kernel_rfl) (fun _ _ _ h => h) (Or.inl ⟨by rfl, ?_⟩) ?_
        rotate_left
        · intro w
          go_simp
          try with_reducible rfl
        refine wpAny_take (i := 12) (v := ?_) rfl (by kernel_rfl) (by kernel_rfl) (by kernel_rfl) (fun _ _ _ h => h) (Or.inl ⟨by rfl, ?_⟩) ?_
        rotate_left
        · intro w
          go_simp
          try with_reducible rfl
        refine wpAny_take (i := 13) (v := ?_) rfl (by kernel_rfl) (by kernel_rfl) (by kernel_rfl) (fun _ _ _ h => h) (Or.inl ⟨by rfl, ?_⟩) ?_
        rotate_left
        · intro w
          go_simp
          try with_reducible rfl
        go_simp
        refine wpAny_ready (rs := [9, 14]) (by kernel_rfl) (by simp) ?_
        refine AllReady.cons (o := { dst := some 54, op := .load 30 (.tmp 11), type := 30, pos := "law.go:104", after := #[{ on := 8, ground := Ground.guard }], guard := some (8, true) }) (by kernel_rfl) (any_loadRow (by kernel_rfl) (.tmp 11) (by kernel_rfl) q3 cs3 (by kernel_rfl) (unhide HSA) ?_) (AllReady.cons (o := { dst := some 59, op := .load 9 (.tmp 58), type := 9, pos := "law.go:104", after := #[{ on := 13, ground := Ground.data }, { on := 8, ground := Ground.guard }], guard := some (8, true) }) (by kernel_rfl) (fun K hK => ?_) AllReady.nil)
        · go_simp
          refine wpAny_ready (rs := [10, 14]) (by kernel_rfl) (by simp) ?_
          refine AllReady.cons (o := { dst := some 55, op := .call { callee := .value (.func 13), args := #[.tmp 54], argTypes := #[30] }, type := 9, pos := "law.go:104", after := #[{ on := 9, ground := Ground.data }, { on := 8, ground := Ground.chain }, { on := 8, ground := Ground.guard }], guard := some (8, true) }) (by kernel_rfl) (fun K hK => ?_) (AllReady.cons (o := { dst := some 59, op := .load 9 (.tmp 58), type := 9, pos := "law.go:104", after := #[{ on := 13, ground := Ground.data }, { on := 8, ground := Ground.guard }], guard := some (8, true) }) (by kernel_rfl) (fun K hK => ?_) AllReady.nil)
          · go_simp
            go_at_call 13
            refine (unhide HXX).mono ?_
            rintro ev w2 ⟨rfl, m3, HB⟩
            replace HB := hide HB
            dsimp only
            try go_simp
            refine hK _ _ ?_
            clear hK K
            refine wpAny_ready (rs := [14]) (by kernel_rfl) (by simp) ?_
            refine AllReady.cons (o := { dst := some 59, op := .load 9 (.tmp 58), type := 9, pos := "law.go:104", after := #[{ on := 13, ground := Ground.data }, { on := 8, ground := Ground.guard }], guard := some (8, true) }) (by kernel_rfl) (fun K hK => ?_) AllReady.nil
            go_simp
            refine hK _ _ ?_
            clear hK K
            refine wpAny_take (i := 15) (v := ?_) rfl (by kernel_rfl) (by kernel_rfl) (by kernel_rfl) (fun _ _ _ h => h) (Or.inl ⟨by rfl, ?_⟩) ?_
            rotate_left
            · intro w
              go_simp
              try with_reducible rfl
            refine wpAny_take (i := 16) (v := ?_) rfl (by kernel_rfl) (by kernel_rfl) (by kernel_rfl) (fun _ _ _ h => h) (Or.inl ⟨by rfl, ?_⟩) ?_
            rotate_left
            · intro w
              go_simp
              try with_reducible rfl
            refine wpAny_take (i := 17) (v := ?_) rfl (by kernel_rfl) (by kernel_rfl) (by kernel_rfl) (fun _ _ _ h => h) (Or.inl ⟨by rfl, ?_⟩) ?_
            rotate_left
            · intro w
              go_simp
              try with_reducible rfl
            refine wpAny_done (by kernel_rfl) ?_ _
            go_wp2
            go_ret
            exact ⟨rfl, unhide HB⟩
          · go_simp
            refine hK _ _ ?_
            clear hK K
            refine wpAny_ready (rs := [10]) (by kernel_rfl) (by simp) ?_
            refine AllReady.cons (o := { dst := some 55, op := .call { callee := .value (.func 13), args := #[.tmp 54], argTypes := #[30] }, type := 9, pos := "law.go:104", after := #[{ on := 9, ground := Ground.data }, { on := 8, ground := Ground.chain }, { on := 8, ground := Ground.guard }], guard := some (8, true) }) (by kernel_rfl) (fun K hK => ?_) AllReady.nil
            go_simp
            go_at_call 13
            refine (unhide HXX).mono ?_
            rintro ev w2 ⟨rfl, m3, HB⟩
            replace HB := hide HB
            dsimp only
            try go_simp
            refine hK _ _ ?_
            clear hK K
            refine wpAny_take (i := 15) (v := ?_) rfl (by kernel_rfl) (by kernel_rfl) (by kernel_rfl) (fun _ _ _ h => h) (Or.inl ⟨by rfl, ?_⟩) ?_
            rotate_left
            · intro w
              go_simp
              try with_reducible rfl
            refine wpAny_take (i := 16) (v := ?_) rfl (by kernel_rfl) (by kernel_rfl) (by kernel_rfl) (fun _ _ _ h => h) (Or.inl ⟨by rfl, ?_⟩) ?_
            rotate_left
            · intro w
              go_simp
              try with_reducible rfl
            refine wpAny_take (i := 17) (v := ?_) rfl (by kernel_rfl) (by kernel_rfl) (by kernel_rfl) (fun _ _ _ h => h) (Or.inl ⟨by rfl, ?_⟩) ?_
            rotate_left
            · intro w
              go_simp
              try with_reducible rfl
            refine wpAny_done (by kernel_rfl) ?_ _
            go_wp2
            go_ret
            exact ⟨rfl, unhide HB⟩
        · go_simp
          refine hK _ _ ?_
          clear hK K
          refine wpAny_ready (rs := [9]) (by kernel_rfl) (by simp) ?_
          refine AllReady.cons (o := { dst := some 54, op := .load 30 (.tmp 11), type := 30, pos := "law.go:104", after := #[{ on := 8, ground := Ground.guard }], guard := some (8, true) }) (by kernel_rfl) (any_loadRow (by kernel_rfl) (.tmp 11) (by kernel_rfl) q3 cs3 (by kernel_rfl) (unhide HSA) ?_) AllReady.nil
          go_simp
          refine wpAny_ready (rs := [10]) (by kernel_rfl) (by simp) ?_
          refine AllReady.cons (o := { dst := some 55, op := .call { callee := .value (.func 13), args := #[.tmp 54], argTypes := #[30] }, type := 9, pos := "law.go:104", after := #[{ on := 9, ground := Ground.data }, { on := 8, ground := Ground.chain }, { on := 8, ground := Ground.guard }], guard := some (8, true) }) (by kernel_rfl) (fun K hK => ?_) AllReady.nil
          go_simp
          go_at_call 13
          refine (unhide HXX).mono ?_
          rintro ev w2 ⟨rfl, m3, HB⟩
          replace HB := hide HB
          dsimp only
          try go_simp
          refine hK _ _ ?_
          clear hK K
          refine wpAny_take (i := 15) (v := ?_) rfl (by kernel_rfl) (by kernel_rfl) (by kernel_rfl) (fun _ _ _ h => h) (Or.inl ⟨by rfl, ?_⟩) ?_
          rotate_left
          · intro w
            go_simp
            try with_reducible rfl
          refine wpAny_take (i := 16) (v := ?_) rfl (by kernel_rfl) (by kernel_rfl) (by kernel_rfl) (fun _ _ _ h => h) (Or.inl ⟨by rfl, ?_⟩) ?_
          rotate_left
          · intro w
            go_simp
            try with_reducible rfl
          refine wpAny_take (i := 17) (v := ?_) rfl (by kernel_rfl) (by kernel_rfl) (by kernel_rfl) (fun _ _ _ h => h) (Or.inl ⟨by rfl, ?_⟩) ?_
          rotate_left
          · intro w
            go_simp
            try with_reducible rfl
          refine wpAny_done (by kernel_rfl) ?_ _
          go_wp2
          go_ret
          exact ⟨rfl, unhide HB⟩
      | false => cases hno
set_option maxHeartbeats 16000000 in
set_option maxRecDepth 100000 in
theorem kinds_false (HK : Known6Spec) (u m : Nat) (hu : u ≤ 255) (hm : m ≤ 255) (note : Bool) (hno : note = false) (w : World) (hG : Glob w) (hT : Tab w) : Calls Tryz.prog 4 #[.int .u8 u, .int .u8 m, .bool note] w fun e w' => e = .returned (.bool true) ∧ Below w.heap.size w w' := by
  have hw0 := cell_lt hG
  obtain ⟨k, hk⟩ : ∃ k, u % 10 = k := ⟨_, rfl⟩
  obtain ⟨n, hn⟩ : ∃ n, m % 20 = n := ⟨_, rfl⟩
  have hk1 : k < 10 := by omega
  have hn1 : n < 20 := by omega
  have eu : (u : Int) % 10 = (k : Int) := by omega
  have em : (m : Int) % 20 = (n : Int) := by omega
  have HP : Hid (∀ W, Below w.heap.size w W → Calls Tryz.prog 8 #[.string ⟨(kdLine k n note).toArray⟩] W fun e w' => ∃ B cs, W.heap.size < B ∧ Holds B w' cs (kdP k) ∧ Below W.heap.size W w' ∧ e = .returned (.tuple #[.agg cs, .nilIface])) := hide (fun W h => parse_good (kd_line k n hk1 hn1 note).1 (kd_line k n hk1 hn1 note).2 W (hG.below h) (by have := h.size; omega))
  have HX : Hid (∀ B cs W, Holds B W cs (kdP k) → Below w.heap.size w W → Calls Tryz.prog 13 #[.agg cs] W fun e w' => e = .returned (.string ⟨(kdT k).toArray⟩) ∧ Below W.heap.size W w') := hide (fun B cs W h hb => by have := text_all h (kd_ok k hk1) (hT.below hb); rw [(kd_text ⟨k, hk1⟩).1] at this; exact this)
  have HKD : Hid (kindN (kdP k) = k) := hide (kd_text ⟨k, hk1⟩).2
  have HKN := hide (HK w hG hT)
  have HRA := hide (kdRow_at k hk1)
  have HLL := hide (kdT_len k)
  clear HK hG hT hw0
  go_enter Tryz.func4, Tryz.ntmps4
  go_wp2_with fail
  refine (unhide HKN).mono ?_
  rintro e w1 ⟨rfl, hb1⟩
  have a1 := alloc_below w1 (.cells kdRow 9)
  have H1 := hide (And.intro (bthen hb1 a1) (show (w1.alloc (.cells kdRow 9)).cell? ⟨w1.heap.size, k, none⟩ = some (.string ⟨(kdT k).toArray⟩) from by rw [← unhide HRA]; simp))
  clear hb1 a1 HKN HRA
  go_wp2_with fail
  generalize hB1 : w1.heap.size = B1 at *
  generalize w1.alloc (.cells kdRow 9) = W1 at *
  clear hB1 hk hn hu hm
  have HL9 : Hid (kdLine k n note = (if note = true then (spN n ++ kdT k) ++ kdNote else spN n ++ kdT k) ++ [10]) := hide rfl
  generalize kdLine k n note = KL at *
  generalize kdT k = kt at *
  go_loopw [9, 10] (fun s i wr => ∃ j : Nat, s = .string ⟨(spN j).toArray⟩ ∧ i = .int .i64 j ∧ j ≤ n ∧ wr = W1) (fun _ i _ => n - (intOf i).toNat)
  case atStart => exact ⟨0, rfl, rfl, Nat.zero_le _, rfl⟩
  case round =>
    obtain ⟨j, rfl, rfl, hj, rfl⟩ := hrel
    by_cases hlt : j < n
    · have hlt2 : (j : Int) < n := by omega
      have c2 : (⟨(spN j).toArray⟩ : ByteArray) ++ ⟨#[32]⟩ = ⟨(spN (j + 1)).toArray⟩ := by rw [show spN (j + 1) = spN j ++ [32] from List.replicate_succ']; exact cat2 _ [32]
      have hl : (spN j).length ≤ 20 := by unfold spN; rw [List.length_replicate]; omega
      go_wp2_with fail
      go_roundw
      case rel => exact ⟨j + 1, rfl, by go_num, by omega, by first | rfl | trivial⟩
      case measure => simp [intOf]; omega
    · obtain rfl : n = j := by omega
      have hlt2 : ¬ (n : Int) < n := by omega
      have HRL : Hid ((spN n).length ≤ 20) := hide (by unfold spN; rw [List.length_replicate]; omega)
      generalize spN n = sp at *
      have hl1 := unhide HRL
      have hl2 := unhide HLL
      have hkk : (k : Int) < 10 := by omega
      have m0 := (unhide H1).2
      have dc1 : (⟨sp.toArray⟩ : ByteArray) ++ ⟨kt.toArray⟩ = ⟨(sp ++ kt).toArray⟩ := cat2 _ _
      have hl3 : (sp ++ kt).length ≤ 40 := by rw [List.length_append]; omega
      generalize sp ++ kt = sk at *
      cases note with
      | true => cases hno
      | false =>
        have dc4 : (⟨sk.toArray⟩ : ByteArray) ++ ⟨#[10]⟩ = ⟨KL.toArray⟩ := by rw [unhide HL9, if_neg (by decide)]; exact cat2 _ [10]
        clear HL9
        go_wp2_with fail
        clear m0
        refine (unhide HP wr (unhide H1).1).mono ?_
        rintro e w3 ⟨B3, cs3, hB3, hh3, hb3, rfl⟩
        have hc3 := hh3.size
        have a3 := alloc_below w3 (.cells cs3 STT)
        have h13 := bthen hb3 a3
        have hkd := hh3.kind
        rw [unhide HKD] at hkd
        have m2 : (w3.alloc (.cells cs3 STT)).cell? ⟨B1, k, none⟩ = some (.string ⟨kt.toArray⟩) := (h13.cell (p := ⟨B1, k, none⟩) (cell_lt (unhide H1).2)).trans (unhide H1).2
        have H3 := hide (And.intro (bthen (unhide H1).1 h13) (And.intro (StAt.new w3 cs3 hc3.1) (hh3.below a3)))
        have HST := hide (StAt.new w3 cs3 hc3.1)
        obtain ⟨hz3, ho3⟩ := hc3
        clear a3 hb3 hh3 HP H1 h13
        go_wp2_with (refine wpList_storeNew rfl _ _ rfl _ _ rfl rfl rfl hz3 ho3 ?_)
        generalize hq3 : w3.heap.size = q3 at *
        generalize w3.alloc (.cells cs3 STT) = W3 at *
        clear hq3
        have hdr : Below W3.heap.size W3 W3.drew := below_drewN (Below.refl _ _) 1
        have HSA : Hid (StAt W3.drew q3 cs3) := hide ((unhide H3).2.1.keep (hdr.block _ (unhide H3).2.1.lt))
        have HXX : Hid (Calls Tryz.prog 13 #[.agg cs3] W3.drew fun e w2 => e = .returned (.string ⟨kt.toArray⟩) ∧ w2.cell? ⟨B1, k, none⟩ = some (.string ⟨kt.toArray⟩) ∧ Below w.heap.size w w2) := hide ((unhide HX _ _ W3.drew ((unhide H3).2.2.below hdr) (bthen (unhide H3).1 hdr)).mono fun e w2 h => ⟨h.1, ((bthen hdr h.2).cell (p := ⟨B1, k, none⟩) (cell_lt m2)).trans m2, bthen (unhide H3).1 (bthen hdr h.2)⟩)
        have m1 : W3.cell? ⟨q3, 0, none⟩ = some (.int .i64 k) := (unhide HST).cell 0 _ hkd
        have m2d : W3.drew.cell? ⟨B1, k, none⟩ = some (.string ⟨kt.toArray⟩) := (hdr.cell (p := ⟨B1, k, none⟩) (cell_lt m2)).trans m2
        clear hdr HX HST hkd H3 hz3 ho3
        refine wp_region_any (by kernel_rfl) ?_
        change wpAny _ _ _ _ _ _ _ (World.drew _)
        refine wpAny_take (i := 0) (v := ?_) rfl (by kernel_rfl) (by kernel_rfl) (by kernel_rfl) (fun _ _ _ h => h) (Or.inl ⟨by rfl, ?_⟩) ?_
        rotate_left
        · intro w
          go_simp
          try with_reducible rfl
        refine wpAny_take (i := 1) (v := ?_) rfl (by kernel_rfl) (by kernel_rfl) (by kernel_rfl) (fun _ _ _ h => h) (Or.inl ⟨by rfl, ?_⟩) ?_
        rotate_left
        · intro w
          go_simp
          try with_reducible rfl
        refine wpAny_take (i := 2) (v := ?_) rfl (by kernel_rfl) (by kernel_rfl) (by kernel_rfl) (fun _ _ _ h => h) (Or.inl ⟨by rfl, ?_⟩) ?_
        rotate_left
        · intro w
          go_simp
          try with_reducible rfl
        refine wpAny_take (i := 3) (v := ?_) rfl (by kernel_rfl) (by kernel_rfl) (by kernel_rfl) (fun _ _ _ h => h) (Or.inl ⟨by rfl, ?_⟩) ?_
        rotate_left
        · intro w
          go_simp
          try with_reducible rfl
        refine wpAny_take (i := 5) (v := ?_) rfl (by kernel_rfl) (by kernel_rfl) (by kernel_rfl) (fun _ _ _ h => h) (Or.inl ⟨by rfl, ?_⟩) ?_
        rotate_left
        · intro w
          go_simp
          try with_reducible rfl
        refine wpAny_ready (rs := [4]) (by kernel_rfl) (by simp) ?_
        refine AllReady.cons (o := { dst := some 49, op := .load 3 (.tmp 48), type := 3, pos := "law.go:104", after := #[{ on := 3, ground := Ground.data }, { on := 2, ground := Ground.guard }], guard := some (2, true) }) (by kernel_rfl) (fun K hK => ?_) AllReady.nil
        go_simp
        refine hK _ _ ?_
        clear hK K
        refine wpAny_ready (rs := [6]) (by kernel_rfl) (by simp) ?_
        refine AllReady.cons (o := { dst := some 51, op := .binOp .eql 3 (.tmp 49) (.tmp 50) 3, type := 4, pos := "law.go:104", after := #[{ on := 4, ground := Ground.data }, { on := 5, ground := Ground.data }, { on := 2, ground := Ground.guard }], guard := some (2, true) }) (by kernel_rfl) (fun K hK => ?_) AllReady.nil
        go_simp
        refine hK _ _ ?_
        clear hK K
        refine wpAny_ready (rs := [7]) (by kernel_rfl) (by simp) ?_
        refine AllReady.cons (o := { dst := some 52, op := .pick (.tmp 47) (.tmp 51) (.const (.bool false)), type := 4, pos := "law.go:104", after := #[{ on := 2, ground := Ground.data }, { on := 6, ground := Ground.data }], guard := none }) (by kernel_rfl) (fun K hK => ?_) AllReady.nil
        go_simp
        refine hK _ _ ?_
        clear hK K
        refine wpAny_ready (rs := [8]) (by kernel_rfl) (by simp) ?_
        refine AllReady.cons (o := { dst := some 53, op := .move (.tmp 52), type := 4, pos := "law.go:104", after := #[{ on := 7, ground := Ground.data }, { on := 2, ground := Ground.chain }], guard := none }) (by kernel_rfl) (fun K hK => ?_) AllReady.nil
        go_simp
        refine hK _ _ ?_
        clear hK K
        refine wpAny_take (i := 11) (v := ?_) rfl (by kernel_rfl) (by kernel_rfl) (by kernel_rfl) (fun _ _ _ h => h) (Or.inl ⟨by rfl, ?_⟩) ?_
        rotate_left
        · intro w
          go_simp
          try with_reducible rfl
        refine wpAny_take (i := 12) (v := ?_) rfl (by kernel_rfl) (by kernel_rfl) (by kernel_rfl) (fun _ _ _ h => h) (Or.inl ⟨by rfl, ?_⟩) ?_
        rotate_left
        · intro w
          go_simp
          try with_reducible rfl
        refine wpAny_take (i := 13) (v := ?_) rfl (by kernel_rfl) (by kernel_rfl) (by kernel_rfl) (fun _ _ _ h => h) (Or.inl ⟨by rfl, ?_⟩) ?_
        rotate_left
        · intro w
          go_simp
          try with_reducible rfl
        go_simp
        refine wpAny_ready (rs := [9, 14]) (by kernel_rfl) (by simp) ?_
        refine AllReady.cons (o := { dst := some 54, op := .load 30 (.tmp 11), type := 30, pos := "law.go:104", after := #[{ on := 8, ground := Ground.guard }], guard := some (8, true) }) (by kernel_rfl) (any_loadRow (by kernel_rfl) (.tmp 11) (by kernel_rfl) q3 cs3 (by kernel_rfl) (unhide HSA) ?_) (AllReady.cons (o := { dst := some 59, op := .load 9 (.tmp 58), type := 9, pos := "law.go:104", after := #[{ on := 13, ground := Ground.data }, { on := 8, ground := Ground.guard }], guard := some (8, true) }) (by kernel_rfl) (fun K hK => ?_) AllReady.nil)
        · go_simp
          refine wpAny_ready (rs := [10, 14]) (by kernel_rfl) (by simp) ?_
          refine AllReady.cons (o := { dst := some 55, op := .call { callee := .value (.func 13), args := #[.tmp 54], argTypes := #[30] }, type := 9, pos := "law.go:104", after := #[{ on := 9, ground := Ground.data }, { on := 8, ground := Ground.chain }, { on := 8, ground := Ground.guard }], guard := some (8, true) }) (by kernel_rfl) (fun K hK => ?_) (AllReady.cons (o := { dst := some 59, op := .load 9 (.tmp 58), type := 9, pos := "law.go:104", after := #[{ on := 13, ground := Ground.data }, { on := 8, ground := Ground.guard }], guard := some (8, true) }) (by kernel_rfl) (fun K hK => ?_) AllReady.nil)
          · go_simp
            go_at_call 13
            refine (unhide HXX).mono ?_
            rintro ev w2 ⟨rfl, m3, HB⟩
            replace HB := hide HB
            dsimp only
            try go_simp
            refine hK _ _ ?_
            clear hK K
            refine wpAny_ready (rs := [14]) (by kernel_rfl) (by simp) ?_
            refine AllReady.cons (o := { dst := some 59, op := .load 9 (.tmp 58), type := 9, pos := "law.go:104", after := #[{ on := 13, ground := Ground.data }, { on := 8, ground := Ground.guard }], guard := some (8, true) }) (by kernel_rfl) (fun K hK => ?_) AllReady.nil
            go_simp
            refine hK _ _ ?_
            clear hK K
            refine wpAny_take (i := 15) (v := ?_) rfl (by kernel_rfl) (by kernel_rfl) (by kernel_rfl) (fun _ _ _ h => h) (Or.inl ⟨by rfl, ?_⟩) ?_
            rotate_left
            · intro w
              go_simp
              try with_reducible rfl
            refine wpAny_take (i := 16) (v := ?_) rfl (by kernel_rfl) (by kernel_rfl) (by kernel_rfl) (fun _ _ _ h => h) (Or.inl ⟨by rfl, ?_⟩) ?_
            rotate_left
            · intro w
              go_simp
              try with_reducible rfl
            refine wpAny_take (i := 17) (v := ?_) rfl (by kernel_rfl) (by kernel_rfl) (by kernel_rfl) (fun _ _ _ h => h) (Or.inl ⟨by rfl, ?_⟩) ?_
            rotate_left
            · intro w
              go_simp
              try with_reducible rfl
            refine wpAny_done (by kernel_rfl) ?_ _
            go_wp2
            go_ret
            exact ⟨rfl, unhide HB⟩
          · go_simp
            refine hK _ _ ?_
            clear hK K
            refine wpAny_ready (rs := [10]) (by kernel_rfl) (by simp) ?_
            refine AllReady.cons (o := { dst := some 55, op := .call { callee := .value (.func 13), args := #[.tmp 54], argTypes := #[30] }, type := 9, pos := "law.go:104", after := #[{ on := 9, ground := Ground.data }, { on := 8, ground := Ground.chain }, { on := 8, ground := Ground.guard }], guard := some (8, true) }) (by kernel_rfl) (fun K hK => ?_) AllReady.nil
            go_simp
            go_at_call 13
            refine (unhide HXX).mono ?_
            rintro ev w2 ⟨rfl, m3, HB⟩
            replace HB := hide HB
            dsimp only
            try go_simp
            refine hK _ _ ?_
            clear hK K
            refine wpAny_take (i := 15) (v := ?_) rfl (by kernel_rfl) (by kernel_rfl) (by kernel_rfl) (fun _ _ _ h => h) (Or.inl ⟨by rfl, ?_⟩) ?_
            rotate_left
            · intro w
              go_simp
              try with_reducible rfl
            refine wpAny_take (i := 16) (v := ?_) rfl (by kernel_rfl) (by kernel_rfl) (by kernel_rfl) (fun _ _ _ h => h) (Or.inl ⟨by rfl, ?_⟩) ?_
            rotate_left
            · intro w
              go_simp
              try with_reducible rfl
            refine wpAny_take (i := 17) (v := ?_) rfl (by kernel_rfl) (by kernel_rfl) (by kernel_rfl) (fun _ _ _ h => h) (Or.inl ⟨by rfl, ?_⟩) ?_
            rotate_left
            · intro w
              go_simp
              try with_reducible rfl
            refine wpAny_done (by kernel_rfl) ?_ _
            go_wp2
            go_ret
            exact ⟨rfl, unhide HB⟩
        · go_simp
          refine hK _ _ ?_
          clear hK K
          refine wpAny_ready (rs := [9]) (by kernel_rfl) (by simp) ?_
          refine AllReady.cons (o := { dst := some 54, op := .load 30 (.tmp 11), type := 30, pos := "law.go:104", after := #[{ on := 8, ground := Ground.guard }], guard := some (8, true) }) (by kernel_rfl) (any_loadRow (by kernel_rfl) (.tmp 11) (by kernel_rfl) q3 cs3 (by kernel_rfl) (unhide HSA) ?_) AllReady.nil
          go_simp
          refine wpAny_ready (rs := [10]) (by kernel_rfl) (by simp) ?_
          refine AllReady.cons (o := { dst := some 55, op := .call { callee := .value (.func 13), args := #[.tmp 54], argTypes := #[30] }, type := 9, pos := "law.go:104", after := #[{ on := 9, ground := Ground.data }, { on := 8, ground := Ground.chain }, { on := 8, ground := Ground.guard }], guard := some (8, true) }) (by kernel_rfl) (fun K hK => ?_) AllReady.nil
          go_simp
          go_at_call 13
          refine (unhide HXX).mono ?_
          rintro ev w2 ⟨rfl, m3, HB⟩
          replace HB := hide HB
          dsimp only
          try go_simp
          refine hK _ _ ?_
          clear hK K
          refine wpAny_take (i := 15) (v := ?_) rfl (by kernel_rfl) (by kernel_rfl) (by kernel_rfl) (fun _ _ _ h => h) (Or.inl ⟨by rfl, ?_⟩) ?_
          rotate_left
          · intro w
            go_simp
            try with_reducible rfl
          refine wpAny_take (i := 16) (v := ?_) rfl (by kernel_rfl) (by kernel_rfl) (by kernel_rfl) (fun _ _ _ h => h) (Or.inl ⟨by rfl, ?_⟩) ?_
          rotate_left
          · intro w
            go_simp
            try with_reducible rfl
          refine wpAny_take (i := 17) (v := ?_) rfl (by kernel_rfl) (by kernel_rfl) (by kernel_rfl) (fun _ _ _ h => h) (Or.inl ⟨by rfl, ?_⟩) ?_
          rotate_left
          · intro w
            go_simp
            try with_reducible rfl
          refine wpAny_done (by kernel_rfl) ?_ _
          go_wp2
          go_ret
          exact ⟨rfl, unhide HB⟩
theorem stmtKinds_walk (HK : Known6Spec) (u m : Nat) (hu : u ≤ 255) (hm : m ≤ 255) (note : Bool) (w : World) (hG : Glob w) (hT : Tab w) : Calls Tryz.prog 4 #[.int .u8 u, .int .u8 m, .bool note] w fun e w' => e = .returned (.bool true) ∧ Below w.heap.size w w' := by
  cases note with
  | true => exact kinds_true HK u m hu hm true rfl w hG hT
  | false => exact kinds_false HK u m hu hm false rfl w hG hT
end Go.Proofs.YtdpjipphbhomkaaGreatDoor.Line
