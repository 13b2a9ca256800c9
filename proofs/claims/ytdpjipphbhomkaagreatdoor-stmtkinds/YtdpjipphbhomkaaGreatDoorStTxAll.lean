/- The contracts of stmt.Text's helpers: head, stepText.
   The contract of strings.Join at this program: the library's theorem, laid at its numbers.
   A row of strings that the call itself makes, filled one by one.
   The contract of stmt's dimsText.
   The contract of stmt's itemsText. -/
import Derived.Test.YtdpjipphbhomkaaGreatDoorShelfF
import Derived.Shelf.Strings.OnBuilder
import Derived.Test.YtdpjipphbhomkaaGreatDoorBase
import Derived.Test.YtdpjipphbhomkaaGreatDoorMemB
import Derived.Laws.MakeOwn
import Derived.Deep.RegionLaw
import Derived.Deep.DeepCutAuto
namespace Go.Proofs.YtdpjipphbhomkaaGreatDoor.Line
open Go.ChangeShapes Go.WideShapes Go.ChangeAt Go.RowKit
set_option linter.unusedVariables false

/-- what the text of a statement of a kind begins with -/
def headT (k : Nat) : List UInt8 := match k with
  | 1 => [105, 110, 116, 101, 103, 101, 114, 32]
  | 3 => [100, 111, 32]
  | 4 => [101, 110, 100, 32, 100, 111]
  | 5 => [105, 102, 32, 40]
  | 6 => [101, 108, 115, 101]
  | 7 => [101, 110, 100, 32, 105, 102]
  | 8 => [114, 101, 97, 100, 32]
  | 9 => [112, 114, 105, 110, 116, 32]
  | _ => []
set_option maxHeartbeats 4000000 in
theorem head_any (k : Nat) (hk : k < 10) (w : World) : Calls Tryz.prog 34 #[.int .i64 k] w fun e w' => e = .returned (.string ⟨(headT k).toArray⟩) ∧ w' = w := by
  match k, hk with
  | 0, _ | 1, _ | 2, _ | 3, _ | 4, _ | 5, _ | 6, _ | 7, _ | 8, _ | 9, _ => (
    go_enter Tryz.func34, Tryz.ntmps34
    go_wp2
    go_ret
    exact ⟨rfl, rfl⟩)
def stepT (n : Int) : List UInt8 := if n = 1 then [] else [44, 32] ++ Lib.itoa n
set_option maxHeartbeats 4000000 in
theorem stepText_any (n : Int) (h0 : -9223372036854775808 ≤ n) (h1 : n ≤ 9223372036854775807) (w : World) (ht : Tab w) :
    Calls Tryz.prog 37 #[.int .i64 n] w fun e w' => e = .returned (.string ⟨(stepT n).toArray⟩) ∧ Below w.heap.size w w' := by
  have HC := hide (formatInt_any n h0 h1 w ht)
  have hlen : (Lib.itoa n).length ≤ 21 := Lib.itoa_length_le n h0 h1
  unfold stepT
  by_cases hn : n = 1
  · subst hn
    clear HC hlen
    have HB := hide (Below.refl w.heap.size w)
    go_enter Tryz.func37, Tryz.ntmps37
    go_wp2
    go_ret
    exact ⟨rfl, unhide HB⟩
  · rw [if_neg hn]
    have hn2 : (n == 1) = false := by simp [hn]
    generalize Lib.itoa n = l at *
    have hc : (⟨#[44, 32]⟩ : ByteArray) ++ ⟨l.toArray⟩ = ⟨([44, 32] ++ l).toArray⟩ := cat2 [44, 32] l
    go_enter Tryz.func37, Tryz.ntmps37
    go_wp2_with fail
    refine (unhide HC).mono ?_
    rintro e w1 ⟨rfl, hb⟩
    have HB := hide hb
    clear hb
    go_wp2
    go_ret
    exact ⟨rfl, unhide HB⟩
end Go.Proofs.YtdpjipphbhomkaaGreatDoor.Line

namespace Go.Proofs.YtdpjipphbhomkaaGreatDoor.Line
open Go.Shelf
def lays156_ren : Go.Shelf.Ren := ⟨fun | 156 => 76 | 165 => 114 | 166 => 77 | 169 => 80 | 240 => 115 | 241 => 134 | 276 => 135 | 277 => 151 | n => n, fun | 31 => 54 | 9 => 9 | 3 => 3 | 4 => 4 | 0 => 0 | 20 => 20 | 72 => 160 | 76 => 165 | 70 => 158 | 37 => 108 | 75 => 32 | 127 => 202 | 164 => 146 | 5 => 5 | 80 => 123 | n => n, fun | n => n⟩
theorem lays156 : Go.Proofs.Lays.n156 Tryz.prog lays156_ren := {
  mixed := by kernel_rfl
  f156 := Tryz.func76.trans (congrArg some (by kernel_rfl))
  f165 := Tryz.func114.trans (congrArg some (by kernel_rfl))
  f166 := Tryz.func77.trans (congrArg some (by kernel_rfl))
  f169 := Tryz.func80.trans (congrArg some (by kernel_rfl))
  f240 := Tryz.func115.trans (congrArg some (by kernel_rfl))
  f241 := Tryz.func134.trans (congrArg some (by kernel_rfl))
  f276 := Tryz.func135.trans (congrArg some (by kernel_rfl))
  f277 := Tryz.func151.trans (congrArg some (by kernel_rfl))
  t0 := Tryz.underlying0
  a0 := Tryz.isAgg0
  z0 := Tryz.sizeOf0
  v0 := Tryz.zeroValue0
  t3 := Tryz.underlying3
  a3 := Tryz.isAgg3
  z3 := Tryz.sizeOf3
  v3 := Tryz.zeroValue3
  t4 := Tryz.underlying4
  a4 := Tryz.isAgg4
  z4 := Tryz.sizeOf4
  v4 := Tryz.zeroValue4
  t9 := Tryz.underlying9
  a9 := Tryz.isAgg9
  z9 := Tryz.sizeOf9
  v9 := Tryz.zeroValue9
  t20 := Tryz.underlying20
  a20 := Tryz.isAgg20
  z20 := Tryz.sizeOf20
  v20 := Tryz.zeroValue20
  t31 := Tryz.underlying54
  a31 := Tryz.isAgg54
  z31 := Tryz.sizeOf54
  v31 := Tryz.zeroValue54
  t37 := Tryz.underlying108
  a37 := Tryz.isAgg108
  z37 := Tryz.sizeOf108
  v37 := Tryz.zeroValue108
  t70 := Tryz.underlying158
  a70 := Tryz.isAgg158
  z70 := Tryz.sizeOf158
  v70 := Tryz.zeroValue158
  t72 := Tryz.underlying160
  a72 := Tryz.isAgg160
  z72 := Tryz.sizeOf160
  v72 := Tryz.zeroValue160
  t75 := Tryz.underlying32
  a75 := Tryz.isAgg32
  z75 := Tryz.sizeOf32
  v75 := Tryz.zeroValue32
  t76 := Tryz.underlying165
  a76 := Tryz.isAgg165
  z76 := Tryz.sizeOf165
  v76 := Tryz.zeroValue165
  t127 := Tryz.underlying202
  a127 := Tryz.isAgg202
  z127 := Tryz.sizeOf202
  v127 := Tryz.zeroValue202
  t164 := Tryz.underlying146
  a164 := Tryz.isAgg146
  z164 := Tryz.sizeOf146
  v164 := Tryz.zeroValue146 }
theorem Builder_Extra_156 : Builder.Extra Tryz.prog lays156_ren := {
  sizeBuilder := by kernel_rfl
  liesBuilder := by kernel_rfl
  t5 := Tryz.underlying5
  a5 := Tryz.isAgg5
  z5 := Tryz.sizeOf5
  v5 := Tryz.zeroValue5
  infoByte := by kernel_rfl
  cellsByte := by kernel_rfl
  sizeByte := by kernel_rfl
  neB5 := by decide }
open Go.RowKit in
theorem strings_Join_none (a : Option Addr) (c : Nat) (sep : ByteArray) (w : World) :
    Calls Tryz.prog 76 #[.slice a 0 c, .string sep] w fun e w' => e = .returned (.string ⟨#[]⟩) ∧ w' = w := Any.strings_Join_none lays156 Builder_Extra_156 a c sep w
open Go.RowKit in
theorem strings_Join (bk o c : Nat) (xs : List ByteArray) (sep : ByteArray) (w : World) (hcells : ∀ (j : Nat) x, xs[j]? = some x → w.cell? ⟨bk, o + j, none⟩ = some (.string x)) (hbk : bk < w.heap.size) (hN : xs.length ≤ 140737488355328) (hcap : xs.length ≤ c) (hlen : (Lib.join (xs.map (·.data.toList)) sep.data.toList).length ≤ 140737488355328) :
    Calls Tryz.prog 76 #[.slice (some ⟨bk, o, none⟩) xs.length c, .string sep] w fun e w' => e = .returned (.string ⟨(Lib.join (xs.map (·.data.toList)) sep.data.toList).toArray⟩) ∧ Below w.heap.size w w' := Any.strings_Join lays156 Builder_Extra_156 bk o c xs sep w hcells hbk hN hcap hlen
end Go.Proofs.YtdpjipphbhomkaaGreatDoor.Line

namespace Go.Proofs.YtdpjipphbhomkaaGreatDoor.Line
open Go.ChangeShapes Go.WideShapes Go.ChangeAt Go.RowKit
set_option linter.unusedVariables false

/-- the row of n strings at block g bears ls so far; all are there, and may be written; old memory is as it was -/
structure FillS (w1 wr : World) (g n : Nat) (ls : List (List UInt8)) : Prop where
  below : Below g w1 wr
  lt : g < wr.heap.size
  free : ∀ j, j < n → wr.frozen? ⟨g, j, none⟩ = false
  some_ : ∀ j, j < n → ∃ x, wr.cell? ⟨g, j, none⟩ = some (.string x)
  done : ∀ j l, ls[j]? = some l → wr.cell? ⟨g, j, none⟩ = some (.string ⟨l.toArray⟩)
theorem FillS.keep {w1 wr w' : World} {g n : Nat} {ls : List (List UInt8)} (h : FillS w1 wr g n ls) (hb : Below wr.heap.size wr w') : FillS w1 w' g n ls := by
  have hk := hb.block g h.lt
  have hc : ∀ o, w'.cell? ⟨g, o, none⟩ = wr.cell? ⟨g, o, none⟩ := fun o => World.cell?_of_block (a := ⟨g, o, none⟩) hk
  have hf : ∀ o, w'.frozen? ⟨g, o, none⟩ = wr.frozen? ⟨g, o, none⟩ := fun o => World.frozen?_of_block (a := ⟨g, o, none⟩) hk
  refine ⟨h.below.trans (hb.mono (Nat.le_of_lt h.lt)), Nat.lt_of_lt_of_le h.lt hb.size, fun j hj => (hf j).trans (h.free j hj), fun j hj => ?_, fun j l hl => (hc j).trans (h.done j l hl)⟩
  obtain ⟨x, hx⟩ := h.some_ j hj
  exact ⟨x, (hc j).trans hx⟩
theorem FillS.step {w1 wr : World} {g n : Nat} {ls : List (List UInt8)} (h : FillS w1 wr g n ls) (hi : ls.length < n) (l : List UInt8) : FillS w1 (wr.setCell ⟨g, ls.length, none⟩ (.string ⟨l.toArray⟩)) g n (ls ++ [l]) := by
  obtain ⟨x, hx⟩ := h.some_ ls.length hi
  have ho : ∀ j, j ≠ ls.length → (wr.setCell ⟨g, ls.length, none⟩ (.string ⟨l.toArray⟩)).cell? ⟨g, j, none⟩ = wr.cell? ⟨g, j, none⟩ := fun j e => World.cell?_setCell_other _ _ _ _ (by intro h9; apply e; simpa using (congrArg Addr.off h9).symm)
  refine ⟨h.below.setCell (Nat.le_refl _) _, by have := h.lt; simpa [World.setCell] using this, fun j hj => (World.frozen?_setCell _ _ _ _).trans (h.free j hj), fun j hj => ?_, fun j k hk => ?_⟩
  · by_cases e : j = ls.length
    · subst e; exact ⟨_, World.cell?_setCell_same _ _ _ hx⟩
    · obtain ⟨y, hy⟩ := h.some_ j hj
      exact ⟨y, (ho j e).trans hy⟩
  · by_cases e : j = ls.length
    · subst e
      rw [List.getElem?_append_right (Nat.le_refl _), Nat.sub_self] at hk
      injection hk with hk
      subst hk
      exact World.cell?_setCell_same _ _ _ hx
    · have hlt : j < ls.length := by
        rcases Nat.lt_or_ge j ls.length with h | h
        · exact h
        · rw [List.getElem?_eq_none (by simp; omega)] at hk; cases hk
      rw [List.getElem?_append_left hlt] at hk
      exact (ho j e).trans (h.done j k hk)
theorem make_strs (n : Nat) (w : World) (hn : n ≤ 1000000) : ∃ Z : Array Value,
    (Instr.makeSlice 54 (.int .i64 n) (.int .i64 n)).run Tryz.prog w = .ok (.slice (some ⟨w.heap.size, 0, none⟩) n n) (w.alloc (.cells Z 9)) ∧ FillS w (w.alloc (.cells Z 9)) w.heap.size n [] := by
  obtain ⟨i0, hi, hz0, hz1, hz2⟩ := info_parts info9
  have h := run_make (P := Tryz.prog) w 54 9 i0 (.string ⟨#[]⟩) Tryz.underlying54 hi hz0 .i64 .i64 n n (by omega) (Int.le_refl _) (by rw [hz2]; omega) (by omega)
  rw [hz1, Int.toNat_natCast, Nat.mul_one] at h
  refine ⟨_, h, (Below.refl _ _).alloc (Nat.le_refl _) _, by simp, fun j hj => ?_, fun j hj => ?_, fun j l hl => by cases hl⟩
  · exact World.frozen?_alloc_at _ _ _ _ rfl
  · refine ⟨⟨#[]⟩, ?_⟩
    rw [World.cell?_alloc_at _ _ _ _ rfl]
    simp [madeCells, Value.cells, hj]
    rw [Nat.mod_one]
    rfl
end Go.Proofs.YtdpjipphbhomkaaGreatDoor.Line

namespace Go.Proofs.YtdpjipphbhomkaaGreatDoor.Line
open Go.ChangeShapes Go.WideShapes Go.ChangeAt Go.RowKit
set_option linter.unusedVariables false

/-- a row of numbers in memory -/
def NumRow (w : World) (b o : Nat) (D : List Int) : Prop := b < w.heap.size ∧ ∀ j x, D[j]? = some x → w.cell? ⟨b, o + j, none⟩ = some (.int .i64 x)
theorem NumRow.below {w w' : World} {b o : Nat} {D : List Int} (h : NumRow w b o D) (hb : Below w.heap.size w w') : NumRow w' b o D := ⟨Nat.lt_of_lt_of_le h.1 hb.size, fun j x hx => (hb.cell (p := ⟨b, o + j, none⟩) h.1).trans (h.2 j x hx)⟩
def joinT (D : List Int) : List UInt8 := Lib.join (D.map Lib.itoa) [44, 32]
def dimsT (D : List Int) : List UInt8 := if D = [] then [] else 40 :: (joinT D ++ [41])
theorem fill_join {w1 wr : World} {g n : Nat} {D : List Int} (h : FillS w1 wr g n (D.map Lib.itoa)) (hn : D.length = n) (hl : n ≤ 1000000) (hj : (joinT D).length ≤ 1000000000) : Calls Tryz.prog 76 #[.slice (some ⟨g, 0, none⟩) n n, .string ⟨#[44, 32]⟩] wr fun e w' => e = .returned (.string ⟨(joinT D).toArray⟩) ∧ Below wr.heap.size wr w' := by
  have hm : ((D.map fun x => (⟨(Lib.itoa x).toArray⟩ : ByteArray)).map (·.data.toList)) = D.map Lib.itoa := by simp
  have h2 := strings_Join g 0 n (D.map fun x => (⟨(Lib.itoa x).toArray⟩ : ByteArray)) ⟨#[44, 32]⟩ wr (fun j x hx => by
    rw [List.getElem?_map] at hx
    cases hd : D[j]? with
    | none => rw [hd] at hx; cases hx
    | some d =>
      rw [hd] at hx
      injection hx with hx
      subst hx
      rw [Nat.zero_add]
      exact h.done j _ (by rw [List.getElem?_map, hd]; rfl)) h.lt (by simp; omega) (by simp; omega) (by rw [hm]; show (joinT D).length ≤ _; omega)
  rw [hm, List.length_map, hn] at h2
  exact h2
set_option maxHeartbeats 8000000 in
set_option maxRecDepth 100000 in
theorem dimsText_any (D : List Int) (b o cap : Nat) (w : World) (hD : D ≠ []) (hr : NumRow w b o D) (hf : ∀ x ∈ D, -9223372036854775808 ≤ x ∧ x ≤ 9223372036854775807) (hl : D.length ≤ 1000000) (hj : (joinT D).length ≤ 1000000000) (ht : Tab w) :
    Calls Tryz.prog 75 #[.slice (some ⟨b, o, none⟩) D.length cap] w fun e w' => e = .returned (.string ⟨(dimsT D).toArray⟩) ∧ Below w.heap.size w w' := by
  obtain ⟨Z, hmk, G0⟩ := make_strs D.length w hl
  have hpos : 0 < D.length := List.length_pos_iff.2 hD
  have hne : ((D.length : Int) == 0) = false := by simp; omega
  have hne2 : ¬ (D.length : Int) = 0 := by omega
  unfold dimsT
  rw [if_neg hD]
  have HG0 := hide G0
  have HR := hide hr
  have HF := hide hf
  have HT := hide ht
  have HJ := hide hj
  clear G0 hr hf ht hD hj
  obtain ⟨n, hn⟩ : ∃ n, D.length = n := ⟨_, rfl⟩
  have HN := hide hn
  rw [hn] at hmk hpos hne hne2 hl HG0
  rw [hn]
  clear hn
  go_enter Tryz.func75, Tryz.ntmps75
  go_wp2_with fail
  clear hmk hne hne2
  go_loopw [14] (fun q wr => ∃ i : Nat, i ≤ n ∧ q = .int .i64 i ∧ Hid (FillS w wr w.heap.size n ((D.take i).map Lib.itoa))) (fun q _ => n - (intOf q).toNat)
  case atStart => exact ⟨0, Nat.zero_le _, rfl, HG0⟩
  case round =>
    obtain ⟨i, hi, rfl, F⟩ := hrel
    by_cases hlt : i < n
    · have hiD : i < D.length := by rw [unhide HN]; exact hlt
      have hx := ((unhide HR).below (unhide F).below).2 i D[i] (List.getElem?_eq_getElem hiD)
      have hbl := ((unhide HR).below (unhide F).below).1
      have hxr := unhide HF D[i] (List.getElem_mem hiD)
      have HC := hide (formatInt_any D[i] hxr.1 hxr.2 wr ((unhide HT).below (unhide F).below))
      have HTK : Hid ((D.take (i + 1)).map Lib.itoa = (D.take i).map Lib.itoa ++ [Lib.itoa D[i]]) := hide (by rw [List.take_add_one, List.getElem?_eq_getElem hiD, List.map_append]; rfl)
      have hll : ((D.take i).map Lib.itoa).length = i := by rw [List.length_map, List.length_take]; omega
      have HLL := hide hll
      have hlt2 : (i : Int) < n := by omega
      generalize D[i] = x at *
      generalize Lib.itoa x = l at *
      clear hxr hll hiD
      go_wp2_with fail
      refine (unhide HC).mono ?_
      rintro e w2 ⟨rfl, hb2⟩
      have F2 := hide ((unhide F).keep hb2)
      obtain ⟨y, hy⟩ := (unhide F2).some_ i hlt
      have hfr := (unhide F2).free i hlt
      have G := hide ((unhide F2).step (by rw [unhide HLL]; exact hlt) l)
      rw [unhide HLL, ← unhide HTK] at G
      clear hb2 F HC hx hbl
      go_wp2
      go_roundw
      case rel => exact ⟨i + 1, by omega, by go_num, G⟩
      case measure => simp [intOf]; omega
    · obtain rfl : n = i := by omega
      have HF2 : Hid (FillS w wr w.heap.size n (D.map Lib.itoa)) := hide (by have h := unhide F; rw [List.take_of_length_le (by rw [unhide HN]; exact Nat.le_refl _)] at h; exact h)
      have HC := hide (fill_join (unhide HF2) (unhide HN) hl (unhide HJ))
      have hjl := unhide HJ
      have HB := hide (unhide HF2).below
      obtain ⟨s, hsj⟩ : ∃ s, joinT D = s := ⟨_, rfl⟩
      rw [hsj] at HC hjl
      have HSJ := hide hsj
      clear hsj
      have hs1 : (⟨#[40]⟩ : ByteArray) ++ ⟨s.toArray⟩ = ⟨(40 :: s).toArray⟩ := cat2 [40] s
      have hs2 : (⟨(40 :: s).toArray⟩ : ByteArray) ++ ⟨#[41]⟩ = ⟨(40 :: (s ++ [41])).toArray⟩ := cat2 (40 :: s) [41]
      have hl2 : (40 :: s : List UInt8).length ≤ 1000000001 := by simp; omega
      clear F HF2
      go_wp2_with fail
      refine (unhide HC).mono ?_
      rintro e w2 ⟨rfl, hb2⟩
      have HB2 := hide (bthen (unhide HB) hb2)
      clear hb2 HB HC
      go_wp2
      go_ret
      exact ⟨by rw [unhide HSJ]; rfl, unhide HB2⟩
theorem dimsText_none (a : Option Addr) (cap : Nat) (w : World) : Calls Tryz.prog 75 #[.slice a 0 cap] w fun e w' => e = .returned (.string ⟨(dimsT []).toArray⟩) ∧ w' = w := by
  go_enter Tryz.func75, Tryz.ntmps75
  go_wp2
  go_ret
  exact ⟨rfl, rfl⟩
/-- dimsText at any row of numbers: behind an address, or nowhere -/
theorem dimsText_row (D : List Int) (v : Value) (w : World) (hv : (D = [] ∧ ∃ a cap, v = .slice a 0 cap) ∨ (∃ b o cap, v = .slice (some ⟨b, o, none⟩) D.length cap ∧ NumRow w b o D)) (hf : ∀ x ∈ D, -9223372036854775808 ≤ x ∧ x ≤ 9223372036854775807) (hl : D.length ≤ 1000000) (hj : (joinT D).length ≤ 1000000000) (ht : Tab w) :
    Calls Tryz.prog 75 #[v] w fun e w' => e = .returned (.string ⟨(dimsT D).toArray⟩) ∧ Below w.heap.size w w' := by
  by_cases hD : D = []
  · subst hD
    have hz : ∃ a cap, v = .slice a 0 cap := by
      rcases hv with ⟨_, h⟩ | ⟨b, o, cap, h, _⟩
      · exact h
      · exact ⟨_, cap, h⟩
    obtain ⟨a, cap, rfl⟩ := hz
    refine (dimsText_none a cap w).mono ?_
    rintro e w' ⟨h, rfl⟩
    exact ⟨h, Below.refl _ _⟩
  · rcases hv with ⟨h, _⟩ | ⟨b, o, cap, rfl, hr⟩
    · exact absurd h hD
    · exact dimsText_any D b o cap w hD hr hf hl hj ht
end Go.Proofs.YtdpjipphbhomkaaGreatDoor.Line

namespace Go.Proofs.YtdpjipphbhomkaaGreatDoor.Line
open Go.ChangeShapes Go.WideShapes Go.ChangeAt Go.RowKit
set_option linter.unusedVariables false

theorem fillL_join {w1 wr : World} {g n : Nat} {ls : List (List UInt8)} (h : FillS w1 wr g n ls) (hn : ls.length = n) (hl : n ≤ 1000000) (hj : (Lib.join ls [44, 32]).length ≤ 1000000000) : Calls Tryz.prog 76 #[.slice (some ⟨g, 0, none⟩) n n, .string ⟨#[44, 32]⟩] wr fun e w' => e = .returned (.string ⟨(Lib.join ls [44, 32]).toArray⟩) ∧ Below wr.heap.size wr w' := by
  have hm : ((ls.map fun x => (⟨x.toArray⟩ : ByteArray)).map (·.data.toList)) = ls := by rw [List.map_map]; exact (List.map_congr_left (fun x _ => rfl)).trans (List.map_id ls)
  have h2 := strings_Join g 0 n (ls.map fun x => (⟨x.toArray⟩ : ByteArray)) ⟨#[44, 32]⟩ wr (fun j x hx => by
    rw [List.getElem?_map] at hx
    cases hd : ls[j]? with
    | none => rw [hd] at hx; cases hx
    | some d =>
      rw [hd] at hx
      injection hx with hx
      subst hx
      rw [Nat.zero_add]
      exact h.done j _ hd) h.lt (by simp; omega) (by simp; omega) (by rw [hm]; show (Lib.join ls [44, 32]).length ≤ _; omega)
  rw [hm, List.length_map, hn] at h2
  exact h2
def DimsAt (w : World) (v : Value) (D : List Int) : Prop := (D = [] ∧ ∃ a cap, v = .slice a 0 cap) ∨ (∃ b o cap, v = .slice (some ⟨b, o, none⟩) D.length cap ∧ NumRow w b o D)
theorem DimsAt.below {w w' : World} {v : Value} {D : List Int} (h : DimsAt w v D) (hb : Below w.heap.size w w') : DimsAt w' v D := by
  rcases h with h | ⟨b, o, cap, he, hr⟩
  · exact .inl h
  · exact .inr ⟨b, o, cap, he, hr.below hb⟩
theorem dimsT_le (D : List Int) : (dimsT D).length ≤ (joinT D).length + 2 := by
  unfold dimsT
  split
  · simp
  · simp
/-- a row of items in memory: name, dims, the dims' row -/
structure ItRow (w : World) (b o : Nat) (M : List (List UInt8 × List Int × Option Addr × Nat)) : Prop where
  lt : b < w.heap.size
  at_ : ∀ j x, M[j]? = some x → w.cell? ⟨b, o + j * 2, none⟩ = some (.string ⟨x.1.toArray⟩) ∧ w.cell? ⟨b, o + j * 2 + 1, none⟩ = some (.slice x.2.2.1 x.2.1.length x.2.2.2) ∧ ((x.2.1 = [] ∧ ∃ a cap, Value.slice x.2.2.1 x.2.1.length x.2.2.2 = .slice a 0 cap) ∨ (∃ b o cap, Value.slice x.2.2.1 x.2.1.length x.2.2.2 = .slice (some ⟨b, o, none⟩) x.2.1.length cap ∧ NumRow w b o x.2.1)) ∧ (∀ y ∈ x.2.1, -9223372036854775808 ≤ y ∧ y ≤ 9223372036854775807) ∧ x.2.1.length ≤ 1000000 ∧ (joinT x.2.1).length ≤ 1000000 ∧ x.1.length ≤ 1000000
theorem ItRow.below {w w' : World} {b o : Nat} {M : List (List UInt8 × List Int × Option Addr × Nat)} (h : ItRow w b o M) (hb : Below w.heap.size w w') : ItRow w' b o M := by
  refine ⟨Nat.lt_of_lt_of_le h.lt hb.size, fun j x hx => ?_⟩
  obtain ⟨h1, h2, h3, h4⟩ := h.at_ j x hx
  refine ⟨(hb.cell (p := ⟨b, o + j * 2, none⟩) h.lt).trans h1, (hb.cell (p := ⟨b, o + j * 2 + 1, none⟩) h.lt).trans h2, ?_, h4⟩
  rcases h3 with h3 | ⟨b', o', cap, he, hr⟩
  · exact .inl h3
  · exact .inr ⟨b', o', cap, he, hr.below hb⟩
def itemT (x : List UInt8 × List Int × Option Addr × Nat) : List UInt8 := x.1 ++ dimsT x.2.1
set_option maxHeartbeats 8000000 in
set_option maxRecDepth 100000 in
theorem itemsText_any (M : List (List UInt8 × List Int × Option Addr × Nat)) (b o cap : Nat) (w : World) (hr : ItRow w b o M) (hl : M.length ≤ 1000000) (hj : (Lib.join (M.map itemT) [44, 32]).length ≤ 1000000000) (ht : Tab w) :
    Calls Tryz.prog 35 #[.slice (some ⟨b, o, none⟩) M.length cap] w fun e w' => e = .returned (.string ⟨(Lib.join (M.map itemT) [44, 32]).toArray⟩) ∧ Below w.heap.size w w' := by
  obtain ⟨Z, hmk, G0⟩ := make_strs M.length w hl
  have HG0 := hide G0
  have HR := hide hr
  have HT := hide ht
  have HJ := hide hj
  clear G0 hr ht hj
  obtain ⟨n, hn⟩ : ∃ n, M.length = n := ⟨_, rfl⟩
  have HN := hide hn
  rw [hn] at hmk hl HG0
  rw [hn]
  clear hn
  go_enter Tryz.func35, Tryz.ntmps35
  go_wp2_with fail
  clear hmk
  go_loopw [11] (fun q wr => ∃ i : Nat, i ≤ n ∧ q = .int .i64 i ∧ Hid (FillS w wr w.heap.size n ((M.take i).map itemT))) (fun q _ => n - (intOf q).toNat)
  case atStart => exact ⟨0, Nat.zero_le _, rfl, HG0⟩
  case round =>
    obtain ⟨i, hi, rfl, F⟩ := hrel
    by_cases hlt : i < n
    · have hiM : i < M.length := by rw [unhide HN]; exact hlt
      have hrw := (unhide HR).below (unhide F).below
      have hbl := hrw.lt
      obtain ⟨k1, k2, k3, k4, k5, k6, k7⟩ := hrw.at_ i M[i] (List.getElem?_eq_getElem hiM)
      have HTK : Hid ((M.take (i + 1)).map itemT = (M.take i).map itemT ++ [M[i].1 ++ dimsT M[i].2.1]) := hide (by rw [List.take_add_one, List.getElem?_eq_getElem hiM, List.map_append]; rfl)
      have HLL : Hid (((M.take i).map itemT).length = i) := hide (by rw [List.length_map, List.length_take]; omega)
      have hlt2 : (i : Int) < n := by omega
      have HTW := hide ((unhide HT).below (unhide F).below)
      generalize M[i] = x at *
      obtain ⟨nm, D, da, dc⟩ := x
      dsimp only at k1 k2 k3 k4 k5 k6 k7 HTK
      have bal := alloc_below wr (.cells #[.string ⟨nm.toArray⟩, .slice da D.length dc] 70)
      have hdr : Below (wr.alloc (.cells #[.string ⟨nm.toArray⟩, .slice da D.length dc] 70)).heap.size (wr.alloc (.cells #[.string ⟨nm.toArray⟩, .slice da D.length dc] 70)) (wr.alloc (.cells #[.string ⟨nm.toArray⟩, .slice da D.length dc] 70)).drew := below_drewN (Below.refl _ _) 1
      have hk3 : DimsAt (wr.alloc (.cells #[.string ⟨nm.toArray⟩, .slice da D.length dc] 70)).drew (.slice da D.length dc) D := (DimsAt.below (w := wr) k3 bal).below hdr
      have HX := hide (dimsText_row D (.slice da D.length dc) (wr.alloc (.cells #[.string ⟨nm.toArray⟩, .slice da D.length dc] 70)).drew hk3 k4 k5 (by omega) (((unhide HTW).below bal).below hdr))
      have hdl := dimsT_le D
      have e0 : (wr.alloc (.cells #[.string ⟨nm.toArray⟩, .slice da D.length dc] 70)).cell? ⟨wr.heap.size, 0, none⟩ = some (.string ⟨nm.toArray⟩) := by simp
      have e1 : (wr.alloc (.cells #[.string ⟨nm.toArray⟩, .slice da D.length dc] 70)).cell? ⟨wr.heap.size, 1, none⟩ = some (.slice da D.length dc) := by simp
      have hzq : wr.heap.size < (wr.alloc (.cells #[.string ⟨nm.toArray⟩, .slice da D.length dc] 70)).heap.size := by simp
      have F1 := hide ((unhide F).keep bal)
      generalize hdt : dimsT D = dt at *
      have hs : (⟨nm.toArray⟩ : ByteArray) ++ ⟨dt.toArray⟩ = ⟨(nm ++ dt).toArray⟩ := cat2 nm dt
      have hdl2 : dt.length ≤ 1000002 := by omega
      have hb1 : ¬ 9223372036854775807 < nm.length + dt.length := by omega
      clear hdt hdl k3 k4 k5 k6 hrw hiM hk3 bal hdr
      go_upto_region 5 with fail
      generalize (wr.alloc (.cells #[.string ⟨nm.toArray⟩, .slice da D.length dc] 70)) = W1 at *
      generalize hqq : wr.heap.size = q at *
      clear k1 k2 hbl F HTW
      have hdr : Below W1.heap.size W1 W1.drew := below_drewN (Below.refl _ _) 1
      have HAF : Hid (∀ w2, Below W1.drew.heap.size W1.drew w2 → w2.cell? ⟨q, 0, none⟩ = some (.string ⟨nm.toArray⟩) ∧ ∃ y, w2.cell? ⟨w.heap.size, i, none⟩ = some (.string y) ∧ w2.frozen? ⟨w.heap.size, i, none⟩ = false ∧ Hid (FillS w (w2.setCell ⟨w.heap.size, i, none⟩ (.string ⟨(nm ++ dt).toArray⟩)) w.heap.size n ((M.take (i + 1)).map itemT))) := hide (fun w2 hb2 => by
        have hb := bthen hdr hb2
        have F2 := (unhide F1).keep hb
        obtain ⟨y, hy⟩ := F2.some_ i hlt
        have G := F2.step (by rw [unhide HLL]; exact hlt) (nm ++ dt)
        rw [unhide HLL, ← unhide HTK] at G
        exact ⟨(hb.cell (p := ⟨q, 0, none⟩) hzq).trans e0, y, hy, F2.free i hlt, hide G⟩)
      clear hdr F1
      go_region_law (go_simp; go_at_call 75; with_reducible refine (unhide HX).mono ?_; rintro ev w2 ⟨rfl, hb2⟩; obtain ⟨m0, y, hy, hfr, G⟩ := unhide HAF w2 hb2; clear hb2; dsimp only)
      all_goals (
        go_wp2
        go_roundw
        case rel => exact ⟨i + 1, by omega, by go_num, G⟩
        case measure => simp [intOf]; omega)
    · obtain rfl : n = i := by omega
      have HF2 : Hid (FillS w wr w.heap.size n (M.map itemT)) := hide (by have h := unhide F; rw [List.take_of_length_le (by rw [unhide HN]; exact Nat.le_refl _)] at h; exact h)
      have HC := hide (fillL_join (unhide HF2) (by rw [List.length_map]; exact unhide HN) hl (unhide HJ))
      have HB := hide (unhide HF2).below
      clear F HF2
      go_wp2_with fail
      refine (unhide HC).mono ?_
      rintro e w2 ⟨rfl, hb2⟩
      have HB2 := hide (bthen (unhide HB) hb2)
      clear hb2 HB HC
      go_wp2
      go_ret
      exact ⟨rfl, unhide HB2⟩
end Go.Proofs.YtdpjipphbhomkaaGreatDoor.Line
