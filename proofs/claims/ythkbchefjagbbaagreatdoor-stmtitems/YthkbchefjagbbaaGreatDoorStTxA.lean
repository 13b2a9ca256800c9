/- The contracts of stmt.Text's helpers: head, stepText.
   The contract of strings.Join at this program: the library's theorem, laid at its numbers.
   A row of strings that the call itself makes, filled one by one.
   The contract of stmt's dimsText.
   The contract of stmt's itemsText.
   The contract of the project's stmt.Text, a kind a theorem.
   The contract of the project's stmt.Text at a declaration: items that a reading made, in words.
   What the texts of known() are, in words and as trees; what they tell.
   Text of any statement that may be told. -/
import Derived.Test.YthkbchefjagbbaaGreatDoorShelfF
import Derived.Shelf.Strings.OnBuilder
import Derived.Test.YthkbchefjagbbaaGreatDoorBaseAll
import Derived.Laws.MakeOwn
import Derived.Deep.RegionLaw
import Derived.Deep.DeepCutAuto
import Derived.Test.YthkbchefjagbbaaGreatDoorTxA
import Derived.Test.YthkbchefjagbbaaGreatDoorStCondA
import Derived.Test.YthkbchefjagbbaaGreatDoorStTgA
import Derived.Deep.RegionHeld3
import Derived.Test.YthkbchefjagbbaaGreatDoorPlainAll
import Derived.Test.YthkbchefjagbbaaGreatDoorExRef
import Derived.Test.YthkbchefjagbbaaGreatDoorStGaA
namespace Go.Proofs.YthkbchefjagbbaaGreatDoor.Line
open Go.ChangeShapes Go.WideShapes Go.ChangeAt Go.RowKit
set_option linter.unusedVariables false

/-- what the text of a statement of a kind begins with -/
def headT (k : Nat) : List UInt8 := match k with
  | 1 => [105, 110, 116, 101, 103, 101, 114, 32]
  | 3 => [100, 111, 32]
  | 4 => [101, 110, 100, 32, 100, 111]
  | 5 => [105, 102, 32, 40]
  | 6 => [101, 108, 115, 101]
  | 7 => [101, 110, 100, 32, 105, 102]
  | 8 => [114, 101, 97, 100, 32]
  | 9 => [112, 114, 105, 110, 116, 32]
  | _ => []
set_option maxHeartbeats 4000000 in
theorem head_any (k : Nat) (hk : k < 10) (w : World) : Calls Tryz.prog 68 #[.int .i64 k] w fun e w' => e = .returned (.string ⟨(headT k).toArray⟩) ∧ w' = w := by
  match k, hk with
  | 0, _ | 1, _ | 2, _ | 3, _ | 4, _ | 5, _ | 6, _ | 7, _ | 8, _ | 9, _ => (
    go_enter Tryz.func68, Tryz.ntmps68
    go_wp2
    go_ret
    exact ⟨rfl, rfl⟩)
def stepT (n : Int) : List UInt8 := if n = 1 then [] else [44, 32] ++ Lib.itoa n
set_option maxHeartbeats 4000000 in
theorem stepText_any (n : Int) (h0 : -9223372036854775808 ≤ n) (h1 : n ≤ 9223372036854775807) (w : World) (ht : Tab w) :
    Calls Tryz.prog 70 #[.int .i64 n] w fun e w' => e = .returned (.string ⟨(stepT n).toArray⟩) ∧ Below w.heap.size w w' := by
  have HC := hide (formatInt_any n h0 h1 w ht)
  have hlen : (Lib.itoa n).length ≤ 21 := Lib.itoa_length_le n h0 h1
  unfold stepT
  by_cases hn : n = 1
  · subst hn
    clear HC hlen
    have HB := hide (Below.refl w.heap.size w)
    go_enter Tryz.func70, Tryz.ntmps70
    go_wp2
    go_ret
    exact ⟨rfl, unhide HB⟩
  · rw [if_neg hn]
    have hn2 : (n == 1) = false := by simp [hn]
    generalize Lib.itoa n = l at *
    have hc : (⟨#[44, 32]⟩ : ByteArray) ++ ⟨l.toArray⟩ = ⟨([44, 32] ++ l).toArray⟩ := cat2 [44, 32] l
    go_enter Tryz.func70, Tryz.ntmps70
    go_wp2_with fail
    refine (unhide HC).mono ?_
    rintro e w1 ⟨rfl, hb⟩
    have HB := hide hb
    clear hb
    go_wp2
    go_ret
    exact ⟨rfl, unhide HB⟩
end Go.Proofs.YthkbchefjagbbaaGreatDoor.Line

namespace Go.Proofs.YthkbchefjagbbaaGreatDoor.Line
open Go.Shelf
def lays156_ren : Go.Shelf.Ren := ⟨fun | 156 => 108 | 165 => 156 | 166 => 47 | 169 => 50 | 240 => 89 | 241 => 187 | 276 => 136 | 277 => 206 | n => n, fun | 31 => 78 | 9 => 9 | 3 => 3 | 4 => 4 | 0 => 0 | 20 => 20 | 72 => 109 | 76 => 114 | 70 => 106 | 37 => 107 | 75 => 43 | 127 => 178 | 164 => 204 | 5 => 5 | 80 => 118 | n => n, fun | n => n⟩
theorem lays156 : Go.Proofs.Lays.n156 Tryz.prog lays156_ren := {
  mixed := by kernel_rfl
  f156 := Tryz.func108.trans (congrArg some (by kernel_rfl))
  f165 := Tryz.func156.trans (congrArg some (by kernel_rfl))
  f166 := Tryz.func47.trans (congrArg some (by kernel_rfl))
  f169 := Tryz.func50.trans (congrArg some (by kernel_rfl))
  f240 := Tryz.func89.trans (congrArg some (by kernel_rfl))
  f241 := Tryz.func187.trans (congrArg some (by kernel_rfl))
  f276 := Tryz.func136.trans (congrArg some (by kernel_rfl))
  f277 := Tryz.func206.trans (congrArg some (by kernel_rfl))
  t0 := Tryz.underlying0
  a0 := Tryz.isAgg0
  z0 := Tryz.sizeOf0
  v0 := Tryz.zeroValue0
  t3 := Tryz.underlying3
  a3 := Tryz.isAgg3
  z3 := Tryz.sizeOf3
  v3 := Tryz.zeroValue3
  t4 := Tryz.underlying4
  a4 := Tryz.isAgg4
  z4 := Tryz.sizeOf4
  v4 := Tryz.zeroValue4
  t9 := Tryz.underlying9
  a9 := Tryz.isAgg9
  z9 := Tryz.sizeOf9
  v9 := Tryz.zeroValue9
  t20 := Tryz.underlying20
  a20 := Tryz.isAgg20
  z20 := Tryz.sizeOf20
  v20 := Tryz.zeroValue20
  t31 := Tryz.underlying78
  a31 := Tryz.isAgg78
  z31 := Tryz.sizeOf78
  v31 := Tryz.zeroValue78
  t37 := Tryz.underlying107
  a37 := Tryz.isAgg107
  z37 := Tryz.sizeOf107
  v37 := Tryz.zeroValue107
  t70 := Tryz.underlying106
  a70 := Tryz.isAgg106
  z70 := Tryz.sizeOf106
  v70 := Tryz.zeroValue106
  t72 := Tryz.underlying109
  a72 := Tryz.isAgg109
  z72 := Tryz.sizeOf109
  v72 := Tryz.zeroValue109
  t75 := Tryz.underlying43
  a75 := Tryz.isAgg43
  z75 := Tryz.sizeOf43
  v75 := Tryz.zeroValue43
  t76 := Tryz.underlying114
  a76 := Tryz.isAgg114
  z76 := Tryz.sizeOf114
  v76 := Tryz.zeroValue114
  t127 := Tryz.underlying178
  a127 := Tryz.isAgg178
  z127 := Tryz.sizeOf178
  v127 := Tryz.zeroValue178
  t164 := Tryz.underlying204
  a164 := Tryz.isAgg204
  z164 := Tryz.sizeOf204
  v164 := Tryz.zeroValue204 }
theorem Builder_Extra_156 : Builder.Extra Tryz.prog lays156_ren := {
  sizeBuilder := by kernel_rfl
  liesBuilder := by kernel_rfl
  t5 := Tryz.underlying5
  a5 := Tryz.isAgg5
  z5 := Tryz.sizeOf5
  v5 := Tryz.zeroValue5
  infoByte := by kernel_rfl
  cellsByte := by kernel_rfl
  sizeByte := by kernel_rfl
  neB5 := by decide }
open Go.RowKit in
theorem strings_Join_none (a : Option Addr) (c : Nat) (sep : ByteArray) (w : World) :
    Calls Tryz.prog 108 #[.slice a 0 c, .string sep] w fun e w' => e = .returned (.string ⟨#[]⟩) ∧ w' = w := Any.strings_Join_none lays156 Builder_Extra_156 a c sep w
open Go.RowKit in
theorem strings_Join (bk o c : Nat) (xs : List ByteArray) (sep : ByteArray) (w : World) (hcells : ∀ (j : Nat) x, xs[j]? = some x → w.cell? ⟨bk, o + j, none⟩ = some (.string x)) (hbk : bk < w.heap.size) (hN : xs.length ≤ 140737488355328) (hcap : xs.length ≤ c) (hlen : (Lib.join (xs.map (·.data.toList)) sep.data.toList).length ≤ 140737488355328) :
    Calls Tryz.prog 108 #[.slice (some ⟨bk, o, none⟩) xs.length c, .string sep] w fun e w' => e = .returned (.string ⟨(Lib.join (xs.map (·.data.toList)) sep.data.toList).toArray⟩) ∧ Below w.heap.size w w' := Any.strings_Join lays156 Builder_Extra_156 bk o c xs sep w hcells hbk hN hcap hlen
end Go.Proofs.YthkbchefjagbbaaGreatDoor.Line

namespace Go.Proofs.YthkbchefjagbbaaGreatDoor.Line
open Go.ChangeShapes Go.WideShapes Go.ChangeAt Go.RowKit
set_option linter.unusedVariables false

/-- the row of n strings at block g bears ls so far; all are there, and may be written; old memory is as it was -/
structure FillS (w1 wr : World) (g n : Nat) (ls : List (List UInt8)) : Prop where
  below : Below g w1 wr
  lt : g < wr.heap.size
  free : ∀ j, j < n → wr.frozen? ⟨g, j, none⟩ = false
  some_ : ∀ j, j < n → ∃ x, wr.cell? ⟨g, j, none⟩ = some (.string x)
  done : ∀ j l, ls[j]? = some l → wr.cell? ⟨g, j, none⟩ = some (.string ⟨l.toArray⟩)
theorem FillS.keep {w1 wr w' : World} {g n : Nat} {ls : List (List UInt8)} (h : FillS w1 wr g n ls) (hb : Below wr.heap.size wr w') : FillS w1 w' g n ls := by
  have hk := hb.block g h.lt
  have hc : ∀ o, w'.cell? ⟨g, o, none⟩ = wr.cell? ⟨g, o, none⟩ := fun o => World.cell?_of_block (a := ⟨g, o, none⟩) hk
  have hf : ∀ o, w'.frozen? ⟨g, o, none⟩ = wr.frozen? ⟨g, o, none⟩ := fun o => World.frozen?_of_block (a := ⟨g, o, none⟩) hk
  refine ⟨h.below.trans (hb.mono (Nat.le_of_lt h.lt)), Nat.lt_of_lt_of_le h.lt hb.size, fun j hj => (hf j).trans (h.free j hj), fun j hj => ?_, fun j l hl => (hc j).trans (h.done j l hl)⟩
  obtain ⟨x, hx⟩ := h.some_ j hj
  exact ⟨x, (hc j).trans hx⟩
theorem FillS.step {w1 wr : World} {g n : Nat} {ls : List (List UInt8)} (h : FillS w1 wr g n ls) (hi : ls.length < n) (l : List UInt8) : FillS w1 (wr.setCell ⟨g, ls.length, none⟩ (.string ⟨l.toArray⟩)) g n (ls ++ [l]) := by
  obtain ⟨x, hx⟩ := h.some_ ls.length hi
  have ho : ∀ j, j ≠ ls.length → (wr.setCell ⟨g, ls.length, none⟩ (.string ⟨l.toArray⟩)).cell? ⟨g, j, none⟩ = wr.cell? ⟨g, j, none⟩ := fun j e => World.cell?_setCell_other _ _ _ _ (by intro h9; apply e; simpa using (congrArg Addr.off h9).symm)
  refine ⟨h.below.setCell (Nat.le_refl _) _, by have := h.lt; simpa [World.setCell] using this, fun j hj => (World.frozen?_setCell _ _ _ _).trans (h.free j hj), fun j hj => ?_, fun j k hk => ?_⟩
  · by_cases e : j = ls.length
    · subst e; exact ⟨_, World.cell?_setCell_same _ _ _ hx⟩
    · obtain ⟨y, hy⟩ := h.some_ j hj
      exact ⟨y, (ho j e).trans hy⟩
  · by_cases e : j = ls.length
    · subst e
      rw [List.getElem?_append_right (Nat.le_refl _), Nat.sub_self] at hk
      injection hk with hk
      subst hk
      exact World.cell?_setCell_same _ _ _ hx
    · have hlt : j < ls.length := by
        rcases Nat.lt_or_ge j ls.length with h | h
        · exact h
        · rw [List.getElem?_eq_none (by simp; omega)] at hk; cases hk
      rw [List.getElem?_append_left hlt] at hk
      exact (ho j e).trans (h.done j k hk)
theorem make_strs (n : Nat) (w : World) (hn : n ≤ 1000000) : ∃ Z : Array Value,
    (Instr.makeSlice 78 (.int .i64 n) (.int .i64 n)).run Tryz.prog w = .ok (.slice (some ⟨w.heap.size, 0, none⟩) n n) (w.alloc (.cells Z 9)) ∧ FillS w (w.alloc (.cells Z 9)) w.heap.size n [] := by
  obtain ⟨i0, hi, hz0, hz1, hz2⟩ := info_parts info9
  have h := run_make (P := Tryz.prog) w 78 9 i0 (.string ⟨#[]⟩) Tryz.underlying78 hi hz0 .i64 .i64 n n (by omega) (Int.le_refl _) (by rw [hz2]; omega) (by omega)
  rw [hz1, Int.toNat_natCast, Nat.mul_one] at h
  refine ⟨_, h, (Below.refl _ _).alloc (Nat.le_refl _) _, by simp, fun j hj => ?_, fun j hj => ?_, fun j l hl => by cases hl⟩
  · exact World.frozen?_alloc_at _ _ _ _ rfl
  · refine ⟨⟨#[]⟩, ?_⟩
    rw [World.cell?_alloc_at _ _ _ _ rfl]
    simp [madeCells, Value.cells, hj]
    rw [Nat.mod_one]
    rfl
end Go.Proofs.YthkbchefjagbbaaGreatDoor.Line

namespace Go.Proofs.YthkbchefjagbbaaGreatDoor.Line
open Go.ChangeShapes Go.WideShapes Go.ChangeAt Go.RowKit
set_option linter.unusedVariables false

/-- a row of numbers in memory -/
def NumRow (w : World) (b o : Nat) (D : List Int) : Prop := b < w.heap.size ∧ ∀ j x, D[j]? = some x → w.cell? ⟨b, o + j, none⟩ = some (.int .i64 x)
theorem NumRow.below {w w' : World} {b o : Nat} {D : List Int} (h : NumRow w b o D) (hb : Below w.heap.size w w') : NumRow w' b o D := ⟨Nat.lt_of_lt_of_le h.1 hb.size, fun j x hx => (hb.cell (p := ⟨b, o + j, none⟩) h.1).trans (h.2 j x hx)⟩
def joinT (D : List Int) : List UInt8 := Lib.join (D.map Lib.itoa) [44, 32]
def dimsT (D : List Int) : List UInt8 := if D = [] then [] else 40 :: (joinT D ++ [41])
theorem fill_join {w1 wr : World} {g n : Nat} {D : List Int} (h : FillS w1 wr g n (D.map Lib.itoa)) (hn : D.length = n) (hl : n ≤ 1000000) (hj : (joinT D).length ≤ 1000000000) : Calls Tryz.prog 108 #[.slice (some ⟨g, 0, none⟩) n n, .string ⟨#[44, 32]⟩] wr fun e w' => e = .returned (.string ⟨(joinT D).toArray⟩) ∧ Below wr.heap.size wr w' := by
  have hm : ((D.map fun x => (⟨(Lib.itoa x).toArray⟩ : ByteArray)).map (·.data.toList)) = D.map Lib.itoa := by simp
  have h2 := strings_Join g 0 n (D.map fun x => (⟨(Lib.itoa x).toArray⟩ : ByteArray)) ⟨#[44, 32]⟩ wr (fun j x hx => by
    rw [List.getElem?_map] at hx
    cases hd : D[j]? with
    | none => rw [hd] at hx; cases hx
    | some d =>
      rw [hd] at hx
      injection hx with hx
      subst hx
      rw [Nat.zero_add]
      exact h.done j _ (by rw [List.getElem?_map, hd]; rfl)) h.lt (by simp; omega) (by simp; omega) (by rw [hm]; show (joinT D).length ≤ _; omega)
  rw [hm, List.length_map, hn] at h2
  exact h2
set_option maxHeartbeats 8000000 in
set_option maxRecDepth 100000 in
theorem dimsText_any (D : List Int) (b o cap : Nat) (w : World) (hD : D ≠ []) (hr : NumRow w b o D) (hf : ∀ x ∈ D, -9223372036854775808 ≤ x ∧ x ≤ 9223372036854775807) (hl : D.length ≤ 1000000) (hj : (joinT D).length ≤ 1000000000) (ht : Tab w) :
    Calls Tryz.prog 107 #[.slice (some ⟨b, o, none⟩) D.length cap] w fun e w' => e = .returned (.string ⟨(dimsT D).toArray⟩) ∧ Below w.heap.size w w' := by
  obtain ⟨Z, hmk, G0⟩ := make_strs D.length w hl
  have hpos : 0 < D.length := List.length_pos_iff.2 hD
  have hne : ((D.length : Int) == 0) = false := by simp; omega
  have hne2 : ¬ (D.length : Int) = 0 := by omega
  unfold dimsT
  rw [if_neg hD]
  have HG0 := hide G0
  have HR := hide hr
  have HF := hide hf
  have HT := hide ht
  have HJ := hide hj
  clear G0 hr hf ht hD hj
  obtain ⟨n, hn⟩ : ∃ n, D.length = n := ⟨_, rfl⟩
  have HN := hide hn
  rw [hn] at hmk hpos hne hne2 hl HG0
  rw [hn]
  clear hn
  go_enter Tryz.func107, Tryz.ntmps107
  go_wp2_with fail
  clear hmk hne hne2
  go_loopw [14] (fun q wr => ∃ i : Nat, i ≤ n ∧ q = .int .i64 i ∧ Hid (FillS w wr w.heap.size n ((D.take i).map Lib.itoa))) (fun q _ => n - (intOf q).toNat)
  case atStart => exact ⟨0, Nat.zero_le _, rfl, HG0⟩
  case round =>
    obtain ⟨i, hi, rfl, F⟩ := hrel
    by_cases hlt : i < n
    · have hiD : i < D.length := by rw [unhide HN]; exact hlt
      have hx := ((unhide HR).below (unhide F).below).2 i D[i] (List.getElem?_eq_getElem hiD)
      have hbl := ((unhide HR).below (unhide F).below).1
      have hxr := unhide HF D[i] (List.getElem_mem hiD)
      have HC := hide (formatInt_any D[i] hxr.1 hxr.2 wr ((unhide HT).below (unhide F).below))
      have HTK : Hid ((D.take (i + 1)).map Lib.itoa = (D.take i).map Lib.itoa ++ [Lib.itoa D[i]]) := hide (by rw [List.take_add_one, List.getElem?_eq_getElem hiD, List.map_append]; rfl)
      have hll : ((D.take i).map Lib.itoa).length = i := by rw [List.length_map, List.length_take]; omega
      have HLL := hide hll
      have hlt2 : (i : Int) < n := by omega
      generalize D[i] = x at *
      generalize Lib.itoa x = l at *
      clear hxr hll hiD
      go_wp2_with fail
      refine (unhide HC).mono ?_
      rintro e w2 ⟨rfl, hb2⟩
      have F2 := hide ((unhide F).keep hb2)
      obtain ⟨y, hy⟩ := (unhide F2).some_ i hlt
      have hfr := (unhide F2).free i hlt
      have G := hide ((unhide F2).step (by rw [unhide HLL]; exact hlt) l)
      rw [unhide HLL, ← unhide HTK] at G
      clear hb2 F HC hx hbl
      go_wp2
      go_roundw
      case rel => exact ⟨i + 1, by omega, by go_num, G⟩
      case measure => simp [intOf]; omega
    · obtain rfl : n = i := by omega
      have HF2 : Hid (FillS w wr w.heap.size n (D.map Lib.itoa)) := hide (by have h := unhide F; rw [List.take_of_length_le (by rw [unhide HN]; exact Nat.le_refl _)] at h; exact h)
      have HC := hide (fill_join (unhide HF2) (unhide HN) hl (unhide HJ))
      have hjl := unhide HJ
      have HB := hide (unhide HF2).below
      obtain ⟨s, hsj⟩ : ∃ s, joinT D = s := ⟨_, rfl⟩
      rw [hsj] at HC hjl
      have HSJ := hide hsj
      clear hsj
      have hs1 : (⟨#[40]⟩ : ByteArray) ++ ⟨s.toArray⟩ = ⟨(40 :: s).toArray⟩ := cat2 [40] s
      have hs2 : (⟨(40 :: s).toArray⟩ : ByteArray) ++ ⟨#[41]⟩ = ⟨(40 :: (s ++ [41])).toArray⟩ := cat2 (40 :: s) [41]
      have hl2 : (40 :: s : List UInt8).length ≤ 1000000001 := by simp; omega
      clear F HF2
      go_wp2_with fail
      refine (unhide HC).mono ?_
      rintro e w2 ⟨rfl, hb2⟩
      have HB2 := hide (bthen (unhide HB) hb2)
      clear hb2 HB HC
      go_wp2
      go_ret
      exact ⟨by rw [unhide HSJ]; rfl, unhide HB2⟩
theorem dimsText_none (a : Option Addr) (cap : Nat) (w : World) : Calls Tryz.prog 107 #[.slice a 0 cap] w fun e w' => e = .returned (.string ⟨(dimsT []).toArray⟩) ∧ w' = w := by
  go_enter Tryz.func107, Tryz.ntmps107
  go_wp2
  go_ret
  exact ⟨rfl, rfl⟩
/-- dimsText at any row of numbers: behind an address, or nowhere -/
theorem dimsText_row (D : List Int) (v : Value) (w : World) (hv : (D = [] ∧ ∃ a cap, v = .slice a 0 cap) ∨ (∃ b o cap, v = .slice (some ⟨b, o, none⟩) D.length cap ∧ NumRow w b o D)) (hf : ∀ x ∈ D, -9223372036854775808 ≤ x ∧ x ≤ 9223372036854775807) (hl : D.length ≤ 1000000) (hj : (joinT D).length ≤ 1000000000) (ht : Tab w) :
    Calls Tryz.prog 107 #[v] w fun e w' => e = .returned (.string ⟨(dimsT D).toArray⟩) ∧ Below w.heap.size w w' := by
  by_cases hD : D = []
  · subst hD
    have hz : ∃ a cap, v = .slice a 0 cap := by
      rcases hv with ⟨_, h⟩ | ⟨b, o, cap, h, _⟩
      · exact h
      · exact ⟨_, cap, h⟩
    obtain ⟨a, cap, rfl⟩ := hz
    refine (dimsText_none a cap w).mono ?_
    rintro e w' ⟨h, rfl⟩
    exact ⟨h, Below.refl _ _⟩
  · rcases hv with ⟨h, _⟩ | ⟨b, o, cap, rfl, hr⟩
    · exact absurd h hD
    · exact dimsText_any D b o cap w hD hr hf hl hj ht
end Go.Proofs.YthkbchefjagbbaaGreatDoor.Line

namespace Go.Proofs.YthkbchefjagbbaaGreatDoor.Line
open Go.ChangeShapes Go.WideShapes Go.ChangeAt Go.RowKit
set_option linter.unusedVariables false

theorem fillL_join {w1 wr : World} {g n : Nat} {ls : List (List UInt8)} (h : FillS w1 wr g n ls) (hn : ls.length = n) (hl : n ≤ 1000000) (hj : (Lib.join ls [44, 32]).length ≤ 1000000000) : Calls Tryz.prog 108 #[.slice (some ⟨g, 0, none⟩) n n, .string ⟨#[44, 32]⟩] wr fun e w' => e = .returned (.string ⟨(Lib.join ls [44, 32]).toArray⟩) ∧ Below wr.heap.size wr w' := by
  have hm : ((ls.map fun x => (⟨x.toArray⟩ : ByteArray)).map (·.data.toList)) = ls := by rw [List.map_map]; exact (List.map_congr_left (fun x _ => rfl)).trans (List.map_id ls)
  have h2 := strings_Join g 0 n (ls.map fun x => (⟨x.toArray⟩ : ByteArray)) ⟨#[44, 32]⟩ wr (fun j x hx => by
    rw [List.getElem?_map] at hx
    cases hd : ls[j]? with
    | none => rw [hd] at hx; cases hx
    | some d =>
      rw [hd] at hx
      injection hx with hx
      subst hx
      rw [Nat.zero_add]
      exact h.done j _ hd) h.lt (by simp; omega) (by simp; omega) (by rw [hm]; show (Lib.join ls [44, 32]).length ≤ _; omega)
  rw [hm, List.length_map, hn] at h2
  exact h2
def DimsAt (w : World) (v : Value) (D : List Int) : Prop := (D = [] ∧ ∃ a cap, v = .slice a 0 cap) ∨ (∃ b o cap, v = .slice (some ⟨b, o, none⟩) D.length cap ∧ NumRow w b o D)
theorem DimsAt.below {w w' : World} {v : Value} {D : List Int} (h : DimsAt w v D) (hb : Below w.heap.size w w') : DimsAt w' v D := by
  rcases h with h | ⟨b, o, cap, he, hr⟩
  · exact .inl h
  · exact .inr ⟨b, o, cap, he, hr.below hb⟩
theorem dimsT_le (D : List Int) : (dimsT D).length ≤ (joinT D).length + 2 := by
  unfold dimsT
  split
  · simp
  · simp
/-- a row of items in memory: name, dims, the dims' row -/
structure ItRow (w : World) (b o : Nat) (M : List (List UInt8 × List Int × Option Addr × Nat)) : Prop where
  lt : b < w.heap.size
  at_ : ∀ j x, M[j]? = some x → w.cell? ⟨b, o + j * 2, none⟩ = some (.string ⟨x.1.toArray⟩) ∧ w.cell? ⟨b, o + j * 2 + 1, none⟩ = some (.slice x.2.2.1 x.2.1.length x.2.2.2) ∧ ((x.2.1 = [] ∧ ∃ a cap, Value.slice x.2.2.1 x.2.1.length x.2.2.2 = .slice a 0 cap) ∨ (∃ b o cap, Value.slice x.2.2.1 x.2.1.length x.2.2.2 = .slice (some ⟨b, o, none⟩) x.2.1.length cap ∧ NumRow w b o x.2.1)) ∧ (∀ y ∈ x.2.1, -9223372036854775808 ≤ y ∧ y ≤ 9223372036854775807) ∧ x.2.1.length ≤ 1000000 ∧ (joinT x.2.1).length ≤ 1000000 ∧ x.1.length ≤ 1000000
theorem ItRow.below {w w' : World} {b o : Nat} {M : List (List UInt8 × List Int × Option Addr × Nat)} (h : ItRow w b o M) (hb : Below w.heap.size w w') : ItRow w' b o M := by
  refine ⟨Nat.lt_of_lt_of_le h.lt hb.size, fun j x hx => ?_⟩
  obtain ⟨h1, h2, h3, h4⟩ := h.at_ j x hx
  refine ⟨(hb.cell (p := ⟨b, o + j * 2, none⟩) h.lt).trans h1, (hb.cell (p := ⟨b, o + j * 2 + 1, none⟩) h.lt).trans h2, ?_, h4⟩
  rcases h3 with h3 | ⟨b', o', cap, he, hr⟩
  · exact .inl h3
  · exact .inr ⟨b', o', cap, he, hr.below hb⟩
def itemT (x : List UInt8 × List Int × Option Addr × Nat) : List UInt8 := x.1 ++ dimsT x.2.1
set_option maxHeartbeats 8000000 in
set_option maxRecDepth 100000 in
theorem itemsText_any (M : List (List UInt8 × List Int × Option Addr × Nat)) (b o cap : Nat) (w : World) (hr : ItRow w b o M) (hl : M.length ≤ 1000000) (hj : (Lib.join (M.map itemT) [44, 32]).length ≤ 1000000000) (ht : Tab w) :
    Calls Tryz.prog 69 #[.slice (some ⟨b, o, none⟩) M.length cap] w fun e w' => e = .returned (.string ⟨(Lib.join (M.map itemT) [44, 32]).toArray⟩) ∧ Below w.heap.size w w' := by
  obtain ⟨Z, hmk, G0⟩ := make_strs M.length w hl
  have HG0 := hide G0
  have HR := hide hr
  have HT := hide ht
  have HJ := hide hj
  clear G0 hr ht hj
  obtain ⟨n, hn⟩ : ∃ n, M.length = n := ⟨_, rfl⟩
  have HN := hide hn
  rw [hn] at hmk hl HG0
  rw [hn]
  clear hn
  go_enter Tryz.func69, Tryz.ntmps69
  go_wp2_with fail
  clear hmk
  go_loopw [11] (fun q wr => ∃ i : Nat, i ≤ n ∧ q = .int .i64 i ∧ Hid (FillS w wr w.heap.size n ((M.take i).map itemT))) (fun q _ => n - (intOf q).toNat)
  case atStart => exact ⟨0, Nat.zero_le _, rfl, HG0⟩
  case round =>
    obtain ⟨i, hi, rfl, F⟩ := hrel
    by_cases hlt : i < n
    · have hiM : i < M.length := by rw [unhide HN]; exact hlt
      have hrw := (unhide HR).below (unhide F).below
      have hbl := hrw.lt
      obtain ⟨k1, k2, k3, k4, k5, k6, k7⟩ := hrw.at_ i M[i] (List.getElem?_eq_getElem hiM)
      have HTK : Hid ((M.take (i + 1)).map itemT = (M.take i).map itemT ++ [M[i].1 ++ dimsT M[i].2.1]) := hide (by rw [List.take_add_one, List.getElem?_eq_getElem hiM, List.map_append]; rfl)
      have HLL : Hid (((M.take i).map itemT).length = i) := hide (by rw [List.length_map, List.length_take]; omega)
      have hlt2 : (i : Int) < n := by omega
      have HTW := hide ((unhide HT).below (unhide F).below)
      generalize M[i] = x at *
      obtain ⟨nm, D, da, dc⟩ := x
      dsimp only at k1 k2 k3 k4 k5 k6 k7 HTK
      have bal := alloc_below wr (.cells #[.string ⟨nm.toArray⟩, .slice da D.length dc] 132)
      have hdr : Below (wr.alloc (.cells #[.string ⟨nm.toArray⟩, .slice da D.length dc] 132)).heap.size (wr.alloc (.cells #[.string ⟨nm.toArray⟩, .slice da D.length dc] 132)) (wr.alloc (.cells #[.string ⟨nm.toArray⟩, .slice da D.length dc] 132)).drew := below_drewN (Below.refl _ _) 1
      have hk3 : DimsAt (wr.alloc (.cells #[.string ⟨nm.toArray⟩, .slice da D.length dc] 132)).drew (.slice da D.length dc) D := (DimsAt.below (w := wr) k3 bal).below hdr
      have HX := hide (dimsText_row D (.slice da D.length dc) (wr.alloc (.cells #[.string ⟨nm.toArray⟩, .slice da D.length dc] 132)).drew hk3 k4 k5 (by omega) (((unhide HTW).below bal).below hdr))
      have hdl := dimsT_le D
      have e0 : (wr.alloc (.cells #[.string ⟨nm.toArray⟩, .slice da D.length dc] 132)).cell? ⟨wr.heap.size, 0, none⟩ = some (.string ⟨nm.toArray⟩) := by simp
      have e1 : (wr.alloc (.cells #[.string ⟨nm.toArray⟩, .slice da D.length dc] 132)).cell? ⟨wr.heap.size, 1, none⟩ = some (.slice da D.length dc) := by simp
      have hzq : wr.heap.size < (wr.alloc (.cells #[.string ⟨nm.toArray⟩, .slice da D.length dc] 132)).heap.size := by simp
      have F1 := hide ((unhide F).keep bal)
      generalize hdt : dimsT D = dt at *
      have hs : (⟨nm.toArray⟩ : ByteArray) ++ ⟨dt.toArray⟩ = ⟨(nm ++ dt).toArray⟩ := cat2 nm dt
      have hdl2 : dt.length ≤ 1000002 := by omega
      have hb1 : ¬ 9223372036854775807 < nm.length + dt.length := by omega
      clear hdt hdl k3 k4 k5 k6 hrw hiM hk3 bal hdr
      go_upto_region 5 with fail
      generalize (wr.alloc (.cells #[.string ⟨nm.toArray⟩, .slice da D.length dc] 132)) = W1 at *
      generalize hqq : wr.heap.size = q at *
      clear k1 k2 hbl F HTW
      have hdr : Below W1.heap.size W1 W1.drew := below_drewN (Below.refl _ _) 1
      have HAF : Hid (∀ w2, Below W1.drew.heap.size W1.drew w2 → w2.cell? ⟨q, 0, none⟩ = some (.string ⟨nm.toArray⟩) ∧ ∃ y, w2.cell? ⟨w.heap.size, i, none⟩ = some (.string y) ∧ w2.frozen? ⟨w.heap.size, i, none⟩ = false ∧ Hid (FillS w (w2.setCell ⟨w.heap.size, i, none⟩ (.string ⟨(nm ++ dt).toArray⟩)) w.heap.size n ((M.take (i + 1)).map itemT))) := hide (fun w2 hb2 => by
        have hb := bthen hdr hb2
        have F2 := (unhide F1).keep hb
        obtain ⟨y, hy⟩ := F2.some_ i hlt
        have G := F2.step (by rw [unhide HLL]; exact hlt) (nm ++ dt)
        rw [unhide HLL, ← unhide HTK] at G
        exact ⟨(hb.cell (p := ⟨q, 0, none⟩) hzq).trans e0, y, hy, F2.free i hlt, hide G⟩)
      clear hdr F1
      go_region_law (go_simp; go_at_call 107; with_reducible refine (unhide HX).mono ?_; rintro ev w2 ⟨rfl, hb2⟩; obtain ⟨m0, y, hy, hfr, G⟩ := unhide HAF w2 hb2; clear hb2; dsimp only)
      all_goals (
        go_wp2
        go_roundw
        case rel => exact ⟨i + 1, by omega, by go_num, G⟩
        case measure => simp [intOf]; omega)
    · obtain rfl : n = i := by omega
      have HF2 : Hid (FillS w wr w.heap.size n (M.map itemT)) := hide (by have h := unhide F; rw [List.take_of_length_le (by rw [unhide HN]; exact Nat.le_refl _)] at h; exact h)
      have HC := hide (fillL_join (unhide HF2) (by rw [List.length_map]; exact unhide HN) hl (unhide HJ))
      have HB := hide (unhide HF2).below
      clear F HF2
      go_wp2_with fail
      refine (unhide HC).mono ?_
      rintro e w2 ⟨rfl, hb2⟩
      have HB2 := hide (bthen (unhide HB) hb2)
      clear hb2 HB HC
      go_wp2
      go_ret
      exact ⟨rfl, unhide HB2⟩
end Go.Proofs.YthkbchefjagbbaaGreatDoor.Line

namespace Go.Proofs.YthkbchefjagbbaaGreatDoor.Line
open Go.ChangeShapes Go.WideShapes Go.ChangeAt Go.RowKit
open Ex (E St)
set_option linter.unusedVariables false

set_option maxHeartbeats 4000000 in
set_option maxRecDepth 100000 in
theorem text_plain (k : Nat) (hk : k = 0 ∨ k = 4 ∨ k = 6 ∨ k = 7) (w : World) : Calls Tryz.prog 27 #[.agg (stZ k)] w fun e w' => e = .returned (.string ⟨(headT k).toArray⟩) ∧ Below w.heap.size w w' := by
  have ba := hide (alloc_below w (.cells (stZ k) STT))
  have HH := hide (fun W => head_any k (by omega) W)
  rcases hk with rfl | rfl | rfl | rfl <;> (
    go_enter Tryz.func27, Tryz.ntmps27
    go_wp2_with (go_at_call 68; refine (unhide HH _).mono ?_; rintro e w1 ⟨rfl, rfl⟩)
    go_ret
    exact ⟨rfl, unhide ba⟩)
set_option maxHeartbeats 4000000 in
set_option maxRecDepth 100000 in
theorem text_rd (x : E) (a : Option Addr) (n c : Nat) (S : Nat → Prop) (w : World) (hf : Forest w S x.a (.slice a n c)) (ho : OkE x) (ht : Tab w) (hw : wtE x ≤ 90000) (hl : (textT x).length ≤ 1000000) : Calls Tryz.prog 27 #[.agg (toV 8 x (.slice a n c))] w fun e w' => e = .returned (.string ⟨(headT 8 ++ textT x).toArray⟩) ∧ Below w.heap.size w w' := by
  have ba := alloc_below w (.cells (toV 8 x (.slice a n c)) STT)
  have HH : Hid (∀ W, Calls Tryz.prog 68 #[.int .i64 8] W fun e w' => e = .returned (.string ⟨(headT 8).toArray⟩) ∧ w' = W) := hide (fun W => head_any 8 (by decide) W)
  have HX := hide (text_any x (.slice a n c) S _ (hf.old ba) ho (ht.below ba) hw (by omega))
  have HB := hide ba
  have s1 : (⟨(headT 8).toArray⟩ : ByteArray) ++ ⟨(textT x).toArray⟩ = ⟨(headT 8 ++ textT x).toArray⟩ := cat2 _ _
  have hhl : (headT 8).length ≤ 10 := by decide
  clear ba hf ho ht hw
  generalize textT x = tx at *
  generalize headT 8 = hd at *
  generalize hTT : hd ++ tx = TT at *
  go_enter Tryz.func27, Tryz.ntmps27
  go_wp2_with fail
  refine (unhide HH _).mono ?_
  rintro e w1 ⟨rfl, rfl⟩
  go_wp2_with fail
  refine (unhide HX).mono ?_
  rintro e w2 ⟨rfl, hb2⟩
  have H2 := hide (bthen (unhide HB) hb2)
  clear hb2 HB
  go_wp2
  go_ret
  exact ⟨rfl, unhide H2⟩
set_option maxHeartbeats 4000000 in
set_option maxRecDepth 100000 in
theorem text_pr (x : E) (a : Option Addr) (n c : Nat) (S : Nat → Prop) (w : World) (hf : Forest w S x.a (.slice a n c)) (ho : OkE x) (ht : Tab w) (hw : wtE x ≤ 90000) (hl : (textT x).length ≤ 1000000) : Calls Tryz.prog 27 #[.agg (prV 9 x (.slice a n c))] w fun e w' => e = .returned (.string ⟨(headT 9 ++ textT x).toArray⟩) ∧ Below w.heap.size w w' := by
  have ba := alloc_below w (.cells (prV 9 x (.slice a n c)) STT)
  have HH : Hid (∀ W, Calls Tryz.prog 68 #[.int .i64 9] W fun e w' => e = .returned (.string ⟨(headT 9).toArray⟩) ∧ w' = W) := hide (fun W => head_any 9 (by decide) W)
  have HX := hide (text_any x (.slice a n c) S _ (hf.old ba) ho (ht.below ba) hw (by omega))
  have HB := hide ba
  have s1 : (⟨(headT 9).toArray⟩ : ByteArray) ++ ⟨(textT x).toArray⟩ = ⟨(headT 9 ++ textT x).toArray⟩ := cat2 _ _
  have hhl : (headT 9).length ≤ 10 := by decide
  clear ba hf ho ht hw
  generalize textT x = tx at *
  generalize headT 9 = hd at *
  generalize hTT : hd ++ tx = TT at *
  go_enter Tryz.func27, Tryz.ntmps27
  go_wp2_with fail
  refine (unhide HH _).mono ?_
  rintro e w1 ⟨rfl, rfl⟩
  go_wp2_with fail
  refine (unhide HX).mono ?_
  rintro e w2 ⟨rfl, hb2⟩
  have H2 := hide (bthen (unhide HB) hb2)
  clear hb2 HB
  go_wp2
  go_ret
  exact ⟨rfl, unhide H2⟩
set_option maxHeartbeats 4000000 in
set_option maxRecDepth 100000 in
theorem text_set (x y : E) (a a' : Option Addr) (n c n' c' : Nat) (S : Nat → Prop) (w : World) (hx : Forest w S x.a (.slice a n c)) (hy : Forest w S y.a (.slice a' n' c')) (ox : OkE x) (oy : OkE y) (ht : Tab w) (wx : wtE x ≤ 90000) (wy : wtE y ≤ 90000) (lx : (textT x).length ≤ 1000000) (ly : (textT y).length ≤ 1000000) : Calls Tryz.prog 27 #[.agg (setV 2 x (.slice a n c) y (.slice a' n' c'))] w fun e w' => e = .returned (.string ⟨(textT x ++ [32, 61, 32] ++ textT y).toArray⟩) ∧ Below w.heap.size w w' := by
  have ba := alloc_below w (.cells (setV 2 x (.slice a n c) y (.slice a' n' c')) STT)
  have HH : Hid (∀ W, Calls Tryz.prog 68 #[.int .i64 2] W fun e w' => e = .returned (.string ⟨#[]⟩) ∧ w' = W) := hide (fun W => head_any 2 (by decide) W)
  have HX := hide (text_any x (.slice a n c) S _ (hx.old ba) ox (ht.below ba) wx (by omega))
  have HY : Hid (∀ W, Below w.heap.size w W → Calls Tryz.prog 13 #[treeV y (.slice a' n' c')] W fun e w' => e = .returned (.string ⟨(textT y).toArray⟩) ∧ Below W.heap.size W w') := hide (fun W h => text_any y (.slice a' n' c') S W (hy.old h) oy (ht.below h) wy (by omega))
  have hbox : ∀ o, o < 29 → (w.alloc (.cells (setV 2 x (.slice a n c) y (.slice a' n' c')) STT)).cell? ⟨w.heap.size, o, none⟩ = (setV 2 x (.slice a n c) y (.slice a' n' c'))[o]? := fun o ho => by simp
  have HB := hide (And.intro ba (And.intro (hbox 6 (by decide)) (And.intro (hbox 7 (by decide)) (And.intro (hbox 8 (by decide)) (hbox 9 (by decide))))))
  have s0 : (⟨(textT x).toArray⟩ : ByteArray) ++ ⟨#[32, 61, 32]⟩ = ⟨(textT x ++ [32, 61, 32]).toArray⟩ := cat2 _ [32, 61, 32]
  have s1 : (⟨#[]⟩ : ByteArray) ++ ⟨(textT x ++ [32, 61, 32]).toArray⟩ = ⟨(textT x ++ [32, 61, 32]).toArray⟩ := cat2 [] _
  have s2 : (⟨(textT x ++ [32, 61, 32]).toArray⟩ : ByteArray) ++ ⟨(textT y).toArray⟩ = ⟨(textT x ++ [32, 61, 32] ++ textT y).toArray⟩ := cat2 _ _
  have l1 : (textT x ++ [32, 61, 32]).length ≤ 1000003 := by simp; omega
  clear ba hx hy ox oy ht wx wy hbox
  generalize textT x = tx at *
  generalize textT y = ty at *
  generalize hT1 : tx ++ [32, 61, 32] = T1 at *
  generalize hTT : T1 ++ ty = TT at *
  go_enter Tryz.func27, Tryz.ntmps27
  go_wp2_with fail
  refine (unhide HH _).mono ?_
  rintro e w1 ⟨rfl, rfl⟩
  go_wp2_with fail
  refine (unhide HX).mono ?_
  rintro e w2 ⟨rfl, hb2⟩
  have hlt : w.heap.size < (w.alloc (.cells (setV 2 x (.slice a n c) y (.slice a' n' c')) STT)).heap.size := by simp
  have hc : ∀ o, w2.cell? ⟨w.heap.size, o, none⟩ = (w.alloc (.cells (setV 2 x (.slice a n c) y (.slice a' n' c')) STT)).cell? ⟨w.heap.size, o, none⟩ := fun o => hb2.cell (p := ⟨w.heap.size, o, none⟩) hlt
  have m6 : w2.cell? ⟨w.heap.size, 6, none⟩ = some (.int .i64 y.kind) := (hc 6).trans (unhide HB).2.1
  have m7 : w2.cell? ⟨w.heap.size, 7, none⟩ = some (.int .i64 y.n) := (hc 7).trans (unhide HB).2.2.1
  have m8 : w2.cell? ⟨w.heap.size, 8, none⟩ = some (.string ⟨y.name.toArray⟩) := (hc 8).trans (unhide HB).2.2.2.1
  have m9 : w2.cell? ⟨w.heap.size, 9, none⟩ = some (.slice a' n' c') := (hc 9).trans (unhide HB).2.2.2.2
  have H2 := hide (bthen (unhide HB).1 hb2)
  clear hb2 HB hc hlt HX
  go_wp2_with fail
  refine (unhide HY _ (unhide H2)).mono ?_
  rintro e w3 ⟨rfl, hb3⟩
  have H3 := hide (bthen (unhide H2) hb3)
  clear hb3 H2 m6 m7 m8 m9
  go_wp2
  go_ret
  exact ⟨rfl, unhide H3⟩
set_option maxHeartbeats 4000000 in
set_option maxRecDepth 100000 in
theorem text_cond (o : List UInt8) (x y : E) (a a' : Option Addr) (n c n' c' : Nat) (S : Nat → Prop) (w : World) (hx : Forest w S x.a (.slice a n c)) (hy : Forest w S y.a (.slice a' n' c')) (ox : OkE x) (oy : OkE y) (ht : Tab w) (wx : wtE x ≤ 90000) (wy : wtE y ≤ 90000) (lx : (textT x).length ≤ 1000000) (ly : (textT y).length ≤ 1000000) (lo : o.length ≤ 1000) : Calls Tryz.prog 27 #[.agg (ifV 5 o x (.slice a n c) y (.slice a' n' c'))] w fun e w' => e = .returned (.string ⟨(headT 5 ++ (textT x ++ [32] ++ o ++ [32] ++ textT y ++ [41, 32, 116, 104, 101, 110])).toArray⟩) ∧ Below w.heap.size w w' := by
  have ba := alloc_below w (.cells (ifV 5 o x (.slice a n c) y (.slice a' n' c')) STT)
  have HH : Hid (∀ W, Calls Tryz.prog 68 #[.int .i64 5] W fun e w' => e = .returned (.string ⟨(headT 5).toArray⟩) ∧ w' = W) := hide (fun W => head_any 5 (by decide) W)
  have HX := hide (condText_any o x y (.slice a n c) (.slice a' n' c') S _ (hx.old ba) (hy.old ba) ox oy (ht.below ba) wx wy lx ly lo)
  have HB := hide ba
  have hhl : (headT 5).length ≤ 10 := by decide
  have l0 : (textT x ++ [32] ++ o ++ [32] ++ textT y).length ≤ 2002000 := by simp; omega
  clear ba hx hy ox oy ht wx wy lx ly lo
  generalize textT x ++ [32] ++ o ++ [32] ++ textT y = tx at *
  have s0 : (⟨tx.toArray⟩ : ByteArray) ++ ⟨#[41, 32, 116, 104, 101, 110]⟩ = ⟨(tx ++ [41, 32, 116, 104, 101, 110]).toArray⟩ := cat2 _ [41, 32, 116, 104, 101, 110]
  have s1 : (⟨(headT 5).toArray⟩ : ByteArray) ++ ⟨(tx ++ [41, 32, 116, 104, 101, 110]).toArray⟩ = ⟨(headT 5 ++ (tx ++ [41, 32, 116, 104, 101, 110])).toArray⟩ := cat2 _ _
  have l1 : (tx ++ [41, 32, 116, 104, 101, 110]).length ≤ 2002006 := by simp; omega
  generalize hT1 : tx ++ [41, 32, 116, 104, 101, 110] = T1 at *
  generalize headT 5 = hd at *
  generalize hTT : hd ++ T1 = TT at *
  go_enter Tryz.func27, Tryz.ntmps27
  go_wp2_with fail
  refine (unhide HH _).mono ?_
  rintro e w1 ⟨rfl, rfl⟩
  go_wp2_with fail
  refine (unhide HX).mono ?_
  rintro e w2 ⟨rfl, hb2⟩
  have H2 := hide (bthen (unhide HB) hb2)
  clear hb2 HB
  go_wp2
  go_ret
  exact ⟨rfl, unhide H2⟩
/-- ten cells of a box, and old memory, are kept by what writes new memory alone -/
theorem held10 {w W W' : World} {B : Nat} {v0 v1 v2 v3 v4 v5 v6 v7 v8 v9 : Value}
    (h : W.cell? ⟨B, 19, none⟩ = some v0 ∧ W.cell? ⟨B, 20, none⟩ = some v1 ∧ W.cell? ⟨B, 21, none⟩ = some v2 ∧ W.cell? ⟨B, 22, none⟩ = some v3 ∧ W.cell? ⟨B, 23, none⟩ = some v4 ∧ W.cell? ⟨B, 24, none⟩ = some v5 ∧ W.cell? ⟨B, 25, none⟩ = some v6 ∧ W.cell? ⟨B, 26, none⟩ = some v7 ∧ W.cell? ⟨B, 27, none⟩ = some v8 ∧ W.cell? ⟨B, 28, none⟩ = some v9 ∧ Hid (Below w.heap.size w W))
    (hb : Hid (Below W.heap.size W W')) :
    W'.cell? ⟨B, 19, none⟩ = some v0 ∧ W'.cell? ⟨B, 20, none⟩ = some v1 ∧ W'.cell? ⟨B, 21, none⟩ = some v2 ∧ W'.cell? ⟨B, 22, none⟩ = some v3 ∧ W'.cell? ⟨B, 23, none⟩ = some v4 ∧ W'.cell? ⟨B, 24, none⟩ = some v5 ∧ W'.cell? ⟨B, 25, none⟩ = some v6 ∧ W'.cell? ⟨B, 26, none⟩ = some v7 ∧ W'.cell? ⟨B, 27, none⟩ = some v8 ∧ W'.cell? ⟨B, 28, none⟩ = some v9 ∧ Hid (Below w.heap.size w W') := by
  obtain ⟨h0, h1, h2, h3, h4, h5, h6, h7, h8, h9, hx⟩ := h
  have hl := cell_lt h0
  have hc : ∀ o, W'.cell? ⟨B, o, none⟩ = W.cell? ⟨B, o, none⟩ := fun o => hb.cell (p := ⟨B, o, none⟩) hl
  exact ⟨(hc 19).trans h0, (hc 20).trans h1, (hc 21).trans h2, (hc 22).trans h3, (hc 23).trans h4, (hc 24).trans h5, (hc 25).trans h6, (hc 26).trans h7, (hc 27).trans h8, (hc 28).trans h9, hide (bthen (unhide hx) (unhide hb))⟩
set_option maxHeartbeats 8000000 in
set_option maxRecDepth 100000 in
theorem text_loop (nm : List UInt8) (x y : E) (st : Int) (a a' : Option Addr) (n c n' c' : Nat) (S : Nat → Prop) (w : World) (hx : Forest w S x.a (.slice a n c)) (hy : Forest w S y.a (.slice a' n' c')) (ox : OkE x) (oy : OkE y) (ht : Tab w) (wx : wtE x ≤ 90000) (wy : wtE y ≤ 90000) (lx : (textT x).length ≤ 1000000) (ly : (textT y).length ≤ 1000000) (ln : nm.length ≤ 1000) (hs0 : -9223372036854775808 ≤ st) (hs1 : st ≤ 9223372036854775807) : Calls Tryz.prog 27 #[.agg (doV nm x (.slice a n c) y (.slice a' n' c') st)] w fun e w' => e = .returned (.string ⟨(headT 3 ++ (nm ++ [32, 61, 32] ++ textT x ++ [44, 32] ++ textT y ++ stepT st)).toArray⟩) ∧ Below w.heap.size w w' := by
  have ba := alloc_below w (.cells (doV nm x (.slice a n c) y (.slice a' n' c') st) STT)
  have HH : Hid (∀ W, Calls Tryz.prog 68 #[.int .i64 3] W fun e w' => e = .returned (.string ⟨(headT 3).toArray⟩) ∧ w' = W) := hide (fun W => head_any 3 (by decide) W)
  have HX : Hid (∀ W, Hid (Below w.heap.size w W) → Calls Tryz.prog 13 #[treeV x (.slice a n c)] W fun e w' => e = .returned (.string ⟨(textT x).toArray⟩) ∧ Below W.heap.size W w') := hide (fun W h => text_any x (.slice a n c) S W (hx.old h) ox (ht.below h) wx (by omega))
  have HY : Hid (∀ W, Hid (Below w.heap.size w W) → Calls Tryz.prog 13 #[treeV y (.slice a' n' c')] W fun e w' => e = .returned (.string ⟨(textT y).toArray⟩) ∧ Below W.heap.size W w') := hide (fun W h => text_any y (.slice a' n' c') S W (hy.old h) oy (ht.below h) wy (by omega))
  have HZ : Hid (∀ W, Hid (Below w.heap.size w W) → Calls Tryz.prog 70 #[.int .i64 st] W fun e w' => e = .returned (.string ⟨(stepT st).toArray⟩) ∧ Below W.heap.size W w') := hide (fun W h => stepText_any st hs0 hs1 W (ht.below h))
  have lst : (stepT st).length ≤ 30 := by
    unfold stepT
    split
    · simp
    · have := Lib.itoa_length_le st hs0 hs1
      simp; omega
  have hbox : ∀ o, o < 29 → (w.alloc (.cells (doV nm x (.slice a n c) y (.slice a' n' c') st) STT)).cell? ⟨w.heap.size, o, none⟩ = (doV nm x (.slice a n c) y (.slice a' n' c') st)[o]? := fun o ho => by simp
  have m0 : (w.alloc (.cells (doV nm x (.slice a n c) y (.slice a' n' c') st) STT)).cell? ⟨w.heap.size, 19, none⟩ = some (.string ⟨nm.toArray⟩) := hbox 19 (by decide)
  have m1 : (w.alloc (.cells (doV nm x (.slice a n c) y (.slice a' n' c') st) STT)).cell? ⟨w.heap.size, 20, none⟩ = some (.int .i64 x.kind) := hbox 20 (by decide)
  have m2 : (w.alloc (.cells (doV nm x (.slice a n c) y (.slice a' n' c') st) STT)).cell? ⟨w.heap.size, 21, none⟩ = some (.int .i64 x.n) := hbox 21 (by decide)
  have m3 : (w.alloc (.cells (doV nm x (.slice a n c) y (.slice a' n' c') st) STT)).cell? ⟨w.heap.size, 22, none⟩ = some (.string ⟨x.name.toArray⟩) := hbox 22 (by decide)
  have m4 : (w.alloc (.cells (doV nm x (.slice a n c) y (.slice a' n' c') st) STT)).cell? ⟨w.heap.size, 23, none⟩ = some (.slice a n c) := hbox 23 (by decide)
  have m5 : (w.alloc (.cells (doV nm x (.slice a n c) y (.slice a' n' c') st) STT)).cell? ⟨w.heap.size, 24, none⟩ = some (.int .i64 y.kind) := hbox 24 (by decide)
  have m6 : (w.alloc (.cells (doV nm x (.slice a n c) y (.slice a' n' c') st) STT)).cell? ⟨w.heap.size, 25, none⟩ = some (.int .i64 y.n) := hbox 25 (by decide)
  have m7 : (w.alloc (.cells (doV nm x (.slice a n c) y (.slice a' n' c') st) STT)).cell? ⟨w.heap.size, 26, none⟩ = some (.string ⟨y.name.toArray⟩) := hbox 26 (by decide)
  have m8 : (w.alloc (.cells (doV nm x (.slice a n c) y (.slice a' n' c') st) STT)).cell? ⟨w.heap.size, 27, none⟩ = some (.slice a' n' c') := hbox 27 (by decide)
  have m9 : (w.alloc (.cells (doV nm x (.slice a n c) y (.slice a' n' c') st) STT)).cell? ⟨w.heap.size, 28, none⟩ = some (.int .i64 st) := hbox 28 (by decide)
  have HWB : Hid (Below w.heap.size w (w.alloc (.cells (doV nm x (.slice a n c) y (.slice a' n' c') st) STT))) := hide ba
  have HM := hide (And.intro m0 (And.intro m1 (And.intro m2 (And.intro m3 (And.intro m4 (And.intro m5 (And.intro m6 (And.intro m7 (And.intro m8 m9)))))))))
  have hhl : (headT 3).length ≤ 10 := by decide
  clear m0 m1 m2 m3 m4 m5 m6 m7 m8 m9 ba hx hy ox oy ht wx wy hbox hs0 hs1
  generalize textT x = tx at *
  generalize textT y = ty at *
  generalize stepT st = ts at *
  have s1 : (⟨nm.toArray⟩ : ByteArray) ++ ⟨#[32, 61, 32]⟩ = ⟨(nm ++ [32, 61, 32]).toArray⟩ := cat2 nm [32, 61, 32]
  have s2 : (⟨(nm ++ [32, 61, 32]).toArray⟩ : ByteArray) ++ ⟨tx.toArray⟩ = ⟨(nm ++ [32, 61, 32] ++ tx).toArray⟩ := cat2 _ _
  have s3 : (⟨(nm ++ [32, 61, 32] ++ tx).toArray⟩ : ByteArray) ++ ⟨#[44, 32]⟩ = ⟨(nm ++ [32, 61, 32] ++ tx ++ [44, 32]).toArray⟩ := cat2 _ [44, 32]
  have s4 : (⟨(nm ++ [32, 61, 32] ++ tx ++ [44, 32]).toArray⟩ : ByteArray) ++ ⟨ty.toArray⟩ = ⟨(nm ++ [32, 61, 32] ++ tx ++ [44, 32] ++ ty).toArray⟩ := cat2 _ _
  have s5 : (⟨(nm ++ [32, 61, 32] ++ tx ++ [44, 32] ++ ty).toArray⟩ : ByteArray) ++ ⟨ts.toArray⟩ = ⟨(nm ++ [32, 61, 32] ++ tx ++ [44, 32] ++ ty ++ ts).toArray⟩ := cat2 _ _
  have s6 : (⟨(headT 3).toArray⟩ : ByteArray) ++ ⟨(nm ++ [32, 61, 32] ++ tx ++ [44, 32] ++ ty ++ ts).toArray⟩ = ⟨(headT 3 ++ (nm ++ [32, 61, 32] ++ tx ++ [44, 32] ++ ty ++ ts)).toArray⟩ := cat2 _ _
  have l1 : (nm ++ [32, 61, 32]).length ≤ 1003 := by simp; omega
  have l2 : (nm ++ [32, 61, 32] ++ tx).length ≤ 1001003 := by simp; omega
  have l3 : (nm ++ [32, 61, 32] ++ tx ++ [44, 32]).length ≤ 1001005 := by simp; omega
  have l4 : (nm ++ [32, 61, 32] ++ tx ++ [44, 32] ++ ty).length ≤ 2001005 := by simp; omega
  have l5 : (nm ++ [32, 61, 32] ++ tx ++ [44, 32] ++ ty ++ ts).length ≤ 2001035 := by simp; omega
  generalize headT 3 = hd at *
  generalize hT1 : nm ++ [32, 61, 32] = T1 at s1 s2 s3 s4 s5 s6 l1 l2 l3 l4 l5
  generalize hT2 : T1 ++ tx = T2 at s2 s3 s4 s5 s6 l2 l3 l4 l5
  generalize hT3 : T2 ++ [44, 32] = T3 at s3 s4 s5 s6 l3 l4 l5
  generalize hT4 : T3 ++ ty = T4 at s4 s5 s6 l4 l5
  generalize hT5 : T4 ++ ts = T5 at s5 s6 l5
  clear hT1 hT2 hT3 hT4 hT5
  have HT : ∃ T6, T6 = hd ++ T5 := ⟨_, rfl⟩
  obtain ⟨TT, hTT⟩ := HT
  have HTT := hide hTT
  rw [← hTT] at s6
  clear hTT
  have b1 : ¬ 9223372036854775807 < nm.length + 3 := by omega
  have b2 : ¬ 9223372036854775807 < T1.length + tx.length := by omega
  have b3 : ¬ 9223372036854775807 < T2.length + 2 := by omega
  have b4 : ¬ 9223372036854775807 < T3.length + ty.length := by omega
  have b5 : ¬ 9223372036854775807 < T4.length + ts.length := by omega
  have b6 : ¬ 9223372036854775807 < hd.length + T5.length := by omega
  go_enter Tryz.func27, Tryz.ntmps27
  go_wp2_with fail
  refine (unhide HH _).mono ?_
  rintro e w1 ⟨rfl, rfl⟩
  go_wp2_with fail
  generalize (w.alloc (.cells (doV nm x (.slice a n c) y (.slice a' n' c') st) STT)) = W1 at *
  have HD : Hid (Below W1.heap.size W1 W1.drew) := hide (below_drewN (Below.refl _ _) 1)
  generalize hWS : w.heap.size = B0 at HM ⊢
  have HS0 := hide (And.intro (unhide HM).1 (And.intro (unhide HM).2.1 (And.intro (unhide HM).2.2.1 (And.intro (unhide HM).2.2.2.1 (And.intro (unhide HM).2.2.2.2.1 (And.intro (unhide HM).2.2.2.2.2.1 (And.intro (unhide HM).2.2.2.2.2.2.1 (And.intro (unhide HM).2.2.2.2.2.2.2.1 (And.intro (unhide HM).2.2.2.2.2.2.2.2.1 (And.intro (unhide HM).2.2.2.2.2.2.2.2.2 HWB))))))))))
  clear HH HM hWS HWB
  go_region_held3 (fun W => W.cell? ⟨B0, 19, none⟩ = some (.string ⟨nm.toArray⟩) ∧ W.cell? ⟨B0, 20, none⟩ = some (.int .i64 x.kind) ∧ W.cell? ⟨B0, 21, none⟩ = some (.int .i64 x.n) ∧ W.cell? ⟨B0, 22, none⟩ = some (.string ⟨x.name.toArray⟩) ∧ W.cell? ⟨B0, 23, none⟩ = some (.slice a n c) ∧ W.cell? ⟨B0, 24, none⟩ = some (.int .i64 y.kind) ∧ W.cell? ⟨B0, 25, none⟩ = some (.int .i64 y.n) ∧ W.cell? ⟨B0, 26, none⟩ = some (.string ⟨y.name.toArray⟩) ∧ W.cell? ⟨B0, 27, none⟩ = some (.slice a' n' c') ∧ W.cell? ⟨B0, 28, none⟩ = some (.int .i64 st) ∧ Hid (Below w.heap.size w W))
    (first | exact held10 (unhide HS0) HD | exact held10 (by assumption) (by assumption))
    (first
    | (go_at_call 13; with_reducible refine (unhide HX _ (by go_split_ands; assumption)).mono ?_; rintro ev w5 ⟨rfl, hb5⟩; replace hb5 := hide hb5; dsimp only)
    | (go_at_call 13; with_reducible refine (unhide HY _ (by go_split_ands; assumption)).mono ?_; rintro ev w6 ⟨rfl, hb6⟩; replace hb6 := hide hb6; dsimp only)
    | (go_at_call 70; with_reducible refine (unhide HZ _ (by go_split_ands; assumption)).mono ?_; rintro ev w7 ⟨rfl, hb7⟩; replace hb7 := hide hb7; dsimp only))
  all_goals (
    go_wp2
    go_ret
    exact ⟨ret_str (unhide HTT), by go_split_ands; exact unhide (by assumption)⟩)
end Go.Proofs.YthkbchefjagbbaaGreatDoor.Line

namespace Go.Proofs.YthkbchefjagbbaaGreatDoor.Line
open Go.ChangeShapes Go.WideShapes Go.ChangeAt Go.RowKit
open Ex (E St)
set_option linter.unusedVariables false

def slA (v : Value) : Option Addr := match v with | .slice a _ _ => a | _ => none
def slC (v : Value) : Nat := match v with | .slice _ _ c => c | _ => 0
def intsI (l : List Nat) : List Int := l.map fun (n : Nat) => (n : Int)
def convI (x : Itm) : List UInt8 × List Int × Option Addr × Nat := (x.1, intsI x.2.1, slA x.2.2, slC x.2.2)
/-- an item in words -/
def itemP (x : List UInt8 × List Nat) : List UInt8 := x.1 ++ dimsT (intsI x.2)
def OkItem (x : List UInt8 × List Nat) : Prop := (∀ n ∈ x.2, n ≤ 9223372036854775807) ∧ x.2.length ≤ 4 ∧ x.1.length ≤ 1000
theorem flatM_at : ∀ (M : List Itm) (j : Nat) (x : Itm), M[j]? = some x → (flatM M)[j * 2]? = some (.string ⟨x.1.toArray⟩) ∧ (flatM M)[j * 2 + 1]? = some x.2.2 := by
  intro M
  induction M with
  | nil => intro j x h; simp at h
  | cons t M ih =>
    intro j x h
    cases j with
    | zero =>
      have h : t = x := by simpa using h
      subst h
      exact ⟨rfl, rfl⟩
    | succ j =>
      have h : M[j]? = some x := by simpa using h
      have h2 := ih j x h
      rw [show (j + 1) * 2 = j * 2 + 1 + 1 from by omega]
      exact h2
theorem joinT_four (D : List Int) (h4 : D.length ≤ 4) (hf : ∀ x ∈ D, -9223372036854775808 ≤ x ∧ x ≤ 9223372036854775807) : (joinT D).length ≤ 1000 := by
  have hi : ∀ x ∈ D, (Lib.itoa x).length ≤ 21 := fun x hx => Lib.itoa_length_le x (hf x hx).1 (hf x hx).2
  match D, h4, hi with
  | [], _, _ => simp [joinT, Lib.join]
  | [a], _, hi => have := hi a (by simp); simp [joinT, Lib.join]; omega
  | [a, b], _, hi => have := hi a (by simp); have := hi b (by simp); simp [joinT, Lib.join]; omega
  | [a, b, c], _, hi => have := hi a (by simp); have := hi b (by simp); have := hi c (by simp); simp [joinT, Lib.join]; omega
  | [a, b, c, d], _, hi => have := hi a (by simp); have := hi b (by simp); have := hi c (by simp); have := hi d (by simp); simp [joinT, Lib.join]; omega
theorem numRow_of {base : Nat} {w : World} {v : Value} {l : List Nat} (h : OwnN base w v l) : (intsI l = [] ∧ ∃ a cap, Value.slice (slA v) (intsI l).length (slC v) = .slice a 0 cap) ∨ (∃ b o cap, Value.slice (slA v) (intsI l).length (slC v) = .slice (some ⟨b, o, none⟩) (intsI l).length cap ∧ NumRow w b o (intsI l)) := by
  have hll : (intsI l).length = l.length := List.length_map ..
  rcases h.2 with ⟨rfl, h5⟩ | ⟨g, cap, cur, rfl, hg, hh, r⟩
  · have hl : l = [] := List.length_eq_zero_iff.1 h5
    subst hl
    exact .inl ⟨rfl, _, _, rfl⟩
  · refine .inr ⟨g, 0, cap, rfl, ?_, fun j x hx => ?_⟩
    · rcases Nat.lt_or_ge g w.heap.size with h | h
      · exact h
      · rw [Array.getElem?_eq_none h] at hh; cases hh
    · have hj : j < l.length := by
        rcases Nat.lt_or_ge j l.length with h | h
        · exact h
        · rw [List.getElem?_eq_none (by omega)] at hx; cases hx
      rw [Nat.zero_add, World.ownsRow.cellAt h j (by omega)]
      unfold intsI at hx
      unfold ints
      rw [List.getElem?_map] at hx ⊢
      rw [List.getElem?_eq_getElem hj] at hx ⊢
      injection hx with hx
      subst hx
      rfl
theorem ownN_shape {base : Nat} {w : World} {v : Value} {l : List Nat} (h : OwnN base w v l) : v = .slice (slA v) (intsI l).length (slC v) := by
  obtain ⟨a, cap, rfl⟩ := h.shape
  rw [show (intsI l).length = l.length from List.length_map ..]
  rfl
theorem itRow_of {base : Nat} {w : World} {v : Value} {M : List Itm} (h : ItemsAt base w v M) (hM : M ≠ []) (hok : ∀ x ∈ plainI M, OkItem x) : ∃ b cap, v = .slice (some ⟨b, 0, none⟩) (M.map convI).length cap ∧ ItRow w b 0 (M.map convI) := by
  have ho := h.own
  unfold OwnM at ho
  rw [List.length_map]
  rcases ho.2 with ⟨_, h5⟩ | ⟨g, cap, cur, rfl, hg, hh, r⟩
  · exact absurd (List.length_eq_zero_iff.1 h5) hM
  · refine ⟨g, cap, rfl, ?_, fun j y hy => ?_⟩
    · rcases Nat.lt_or_ge g w.heap.size with h | h
      · exact h
      · rw [Array.getElem?_eq_none h] at hh; cases hh
    · rw [List.getElem?_map] at hy
      cases hx : M[j]? with
      | none => rw [hx] at hy; cases hy
      | some x =>
        rw [hx] at hy
        injection hy with hy
        subst hy
        obtain ⟨hl, hxe⟩ := List.getElem?_eq_some_iff.1 hx
        obtain ⟨f1, f2⟩ := flatM_at M j x hx
        have hmem : x ∈ M := hxe ▸ List.getElem_mem hl
        have hd := h.dims x hmem
        obtain ⟨o1, o2, o3⟩ := hok (x.1, x.2.1) (List.mem_map.2 ⟨x, hmem, rfl⟩)
        have hf : ∀ y ∈ (convI x).2.1, -9223372036854775808 ≤ y ∧ y ≤ 9223372036854775807 := fun y hy => by
          obtain ⟨n, hn, rfl⟩ := List.mem_map.1 hy
          have := o1 n hn
          exact ⟨by omega, by omega⟩
        have hll : (convI x).2.1.length = x.2.1.length := List.length_map ..
        refine ⟨?_, ?_, numRow_of hd, hf, by rw [hll]; exact Nat.le_trans o2 (by decide), Nat.le_trans (joinT_four _ (by rw [hll]; exact o2) hf) (by decide), Nat.le_trans o3 (by decide)⟩
        · rw [Nat.zero_add, World.ownsRow.cellAt ho (j * 2) (by omega)]; exact f1
        · rw [Nat.zero_add, World.ownsRow.cellAt ho (j * 2 + 1) (by omega), f2, ownN_shape hd]; rfl
theorem plain_conv (M : List Itm) : (M.map convI).map itemT = (plainI M).map itemP := by
  unfold plainI
  rw [List.map_map, List.map_map]
  rfl
set_option maxHeartbeats 4000000 in
set_option maxRecDepth 100000 in
theorem text_decl (m : List (List UInt8 × List Nat)) (v : Value) (M : List Itm) (base : Nat) (w : World) (h : ItemsAt base w v M) (hm : plainI M = m) (hne : m ≠ []) (hok : ∀ x ∈ m, OkItem x) (hl : m.length ≤ 1000000) (hj : (Lib.join (m.map itemP) [44, 32]).length ≤ 1000000) (ht : Tab w) :
    Calls Tryz.prog 27 #[.agg ((stZ 1).setIfInBounds 1 v)] w fun e w' => e = .returned (.string ⟨(headT 1 ++ Lib.join (m.map itemP) [44, 32]).toArray⟩) ∧ Below w.heap.size w w' := by
  subst hm
  obtain ⟨b, cap, hv, hr⟩ := itRow_of h (fun e => by subst e; exact hne rfl) hok
  rw [← plain_conv] at hj ⊢
  have hl2 : (M.map convI).length ≤ 1000000 := by rw [List.length_map]; unfold plainI at hl; rw [List.length_map] at hl; exact hl
  subst hv
  clear h hok hne hl
  generalize M.map convI = MM at *
  generalize hn : MM.length = n at *
  have ba := alloc_below w (.cells ((stZ 1).setIfInBounds 1 (.slice (some ⟨b, 0, none⟩) n cap)) STT)
  have HH : Hid (∀ W, Calls Tryz.prog 68 #[.int .i64 1] W fun e w' => e = .returned (.string ⟨(headT 1).toArray⟩) ∧ w' = W) := hide (fun W => head_any 1 (by decide) W)
  have HX := hide (itemsText_any MM b 0 cap _ (hr.below ba) (by omega) (by omega) (ht.below ba))
  rw [hn] at HX
  have HB := hide ba
  have s1 : (⟨(headT 1).toArray⟩ : ByteArray) ++ ⟨(Lib.join (MM.map itemT) [44, 32]).toArray⟩ = ⟨(headT 1 ++ Lib.join (MM.map itemT) [44, 32]).toArray⟩ := cat2 _ _
  have hhl : (headT 1).length ≤ 10 := by decide
  clear ba hr ht hn hl2
  generalize Lib.join (MM.map itemT) [44, 32] = tx at *
  generalize headT 1 = hd at *
  generalize hTT : hd ++ tx = TT at *
  show Calls Tryz.prog 27 #[.agg #[.int .i64 1, .slice (some ⟨b, 0, none⟩) n cap, .int .i64 0, .int .i64 0, .string ⟨#[]⟩, .slice none 0 0, .int .i64 0, .int .i64 0, .string ⟨#[]⟩, .slice none 0 0, .string ⟨#[]⟩, .int .i64 0, .int .i64 0, .string ⟨#[]⟩, .slice none 0 0, .int .i64 0, .int .i64 0, .string ⟨#[]⟩, .slice none 0 0, .string ⟨#[]⟩, .int .i64 0, .int .i64 0, .string ⟨#[]⟩, .slice none 0 0, .int .i64 0, .int .i64 0, .string ⟨#[]⟩, .slice none 0 0, .int .i64 0]] w _
  go_enter Tryz.func27, Tryz.ntmps27
  go_wp2_with fail
  refine (unhide HH _).mono ?_
  rintro e w1 ⟨rfl, rfl⟩
  go_wp2_with fail
  refine (unhide HX).mono ?_
  rintro e w2 ⟨rfl, hb2⟩
  have H2 := hide (bthen (unhide HB) hb2)
  clear hb2 HB
  go_wp2
  go_ret
  exact ⟨rfl, unhide H2⟩
end Go.Proofs.YthkbchefjagbbaaGreatDoor.Line

namespace Go.Proofs.YthkbchefjagbbaaGreatDoor.Line
open Ex (E St)
set_option linter.unusedVariables false

abbrev kS1 : List UInt8 := [45, 40, 120, 32, 43, 32, 50, 41, 42, 97, 40, 105, 44, 32, 40, 106, 41, 41, 47, 40, 51, 42, 52, 41]
abbrev kS2 : List UInt8 := [49, 32, 45, 32, 40, 50, 32, 45, 32, 45, 51, 41]
abbrev kS3 : List UInt8 := [120, 32, 43, 32, 41, 32, 50]
abbrev kS4 : List UInt8 := [120, 42, 50, 32, 47, 61, 32, 121, 41]
def kA : E := .mk 8 0 [] [.mk 7 0 [] [.mk 4 0 [] [.mk 5 0 [] [.mk 2 0 [120] [], .mk 1 2 [] []]], .mk 3 0 [97] [.mk 2 0 [105] [], .mk 2 0 [106] []]], .mk 7 0 [] [.mk 1 3 [] [], .mk 1 4 [] []]]
def kB : E := .mk 6 0 [] [.mk 1 1 [] [], .mk 6 0 [] [.mk 1 2 [] [], .mk 4 0 [] [.mk 1 3 [] []]]]
theorem kT1 : Words.toks kS1 = ((Words.toks kS1).1, 0, 0) := by kernel_rfl
theorem kR1 : Ex.RExpr (Words.toks kS1).1 0 s00 (kA, ⟨(Words.toks kS1).1.length, 0, 0⟩) := ⟨200, by kernel_rfl⟩
theorem kT2 : Words.toks kS2 = ((Words.toks kS2).1, 0, 0) := by kernel_rfl
theorem kR2 : Ex.RExpr (Words.toks kS2).1 0 s00 (kB, ⟨(Words.toks kS2).1.length, 0, 0⟩) := ⟨200, by kernel_rfl⟩
theorem kT3 : Words.toks kS3 = ((Words.toks kS3).1, 0, 0) := by kernel_rfl
theorem kR3 : ∃ x p, Ex.RExpr (Words.toks kS3).1 0 s00 (x, ⟨p, 2, 2⟩) := ⟨.mk 5 0 [] [.mk 2 0 [120] [], E.none], 2, 200, by kernel_rfl⟩
theorem kT4 : Words.toks kS4 = ((Words.toks kS4).1, 0, 0) := by kernel_rfl
def kX : E := .mk 7 0 [] [.mk 2 0 [120] [], .mk 1 2 [] []]
def kY : E := .mk 2 0 [121] []
theorem kR4 : RCond (Words.toks kS4).1 [47, 61] kX kY ⟨5, 0, 0⟩ := by
  refine ⟨kX, ⟨3, 0, 0⟩, ⟨200, by kernel_rfl⟩, .inr (.inr ⟨rfl, by kernel_rfl, kY, ⟨5, 0, 0⟩, ⟨200, by kernel_rfl⟩, .inr ⟨rfl, rfl, ⟨by decide +kernel, by kernel_rfl⟩, rfl, rfl⟩⟩)⟩
theorem kX1 : textT kA = [45, 40, 120, 32, 43, 32, 50, 41, 32, 42, 32, 97, 40, 105, 44, 32, 106, 41, 32, 47, 32, 40, 51, 32, 42, 32, 52, 41] := by kernel_rfl
theorem kX2 : textT kB = [49, 32, 45, 32, 40, 50, 32, 45, 32, 40, 45, 51, 41, 41] := by kernel_rfl
theorem kX3 : textT kX = [120, 32, 42, 32, 50] := by kernel_rfl
theorem kX4 : textT kY = [121] := by kernel_rfl
theorem kX5 : textT (.mk 1 (-4) [] []) = [40, 45, 52, 41] := by kernel_rfl
theorem ok_leaf (k n : Int) (s : List UInt8) (h1 : -9223372036854775808 ≤ n) (h2 : n ≤ 9223372036854775807) (h3 : s.length ≤ 1000000) : OkE (.mk k n s []) := .mk _ ⟨h1, h2, h3⟩ (by simp [E.a]) (fun y hy => by simp [E.a] at hy)
theorem ok_row (k n : Int) (s : List UInt8) (a : List E) (h1 : -9223372036854775808 ≤ n) (h2 : n ≤ 9223372036854775807) (h3 : s.length ≤ 1000000) (h4 : a.length ≤ 1000) (h : ∀ y ∈ a, OkE y) : OkE (.mk k n s a) := .mk _ ⟨h1, h2, h3⟩ h4 h
/-- a tree that may be told, by reckoning -/
def okB : Nat → E → Bool
  | 0, _ => false
  | f + 1, .mk k n s a => decide (-9223372036854775808 ≤ n) && decide (n ≤ 9223372036854775807) && decide (s.length ≤ 1000000) && decide (a.length ≤ 1000) && a.all (okB f)
theorem okB_ok : ∀ (f : Nat) (x : E), okB f x = true → OkE x := by
  intro f
  induction f with
  | zero => intro x h; simp [okB] at h
  | succ f ih =>
    intro x h
    obtain ⟨k, n, s, a⟩ := x
    simp only [okB, Bool.and_eq_true, decide_eq_true_eq, List.all_eq_true] at h
    exact ok_row k n s a h.1.1.1.1 h.1.1.1.2 h.1.1.2 h.1.2 (fun y hy => ih y (h.2 y hy))
theorem kOA : OkE kA := okB_ok 9 _ (by decide +kernel)
theorem kOB : OkE kB := okB_ok 9 _ (by decide +kernel)
theorem kOX : OkE kX := okB_ok 9 _ (by decide +kernel)
theorem kOY : OkE kY := okB_ok 9 _ (by decide +kernel)
theorem kO5 : OkE (.mk 1 (-4) [] []) := okB_ok 9 _ (by decide +kernel)
theorem kWA : wtE kA ≤ 90000 := by decide +kernel
theorem kWB : wtE kB ≤ 90000 := by decide +kernel
theorem kWX : wtE kX ≤ 90000 := by decide +kernel
theorem kWY : wtE kY ≤ 90000 := by decide +kernel
theorem kW5 : wtE (.mk 1 (-4) [] []) ≤ 90000 := by decide +kernel
end Go.Proofs.YthkbchefjagbbaaGreatDoor.Line

namespace Go.Proofs.YthkbchefjagbbaaGreatDoor.Line
open Go.ChangeShapes Go.WideShapes Go.ChangeAt Go.RowKit
open Ex (E St)
set_option linter.unusedVariables false

/-- a statement in words -/
def stText : PS → List UInt8
  | .plain k => headT k
  | .decl m => headT 1 ++ Lib.join (m.map itemP) [44, 32]
  | .set x y => textT x ++ [32, 61, 32] ++ textT y
  | .loop nm x y st => headT 3 ++ (nm ++ [32, 61, 32] ++ textT x ++ [44, 32] ++ textT y ++ stepT st)
  | .cond o x y => headT 5 ++ (textT x ++ [32] ++ o ++ [32] ++ textT y ++ [41, 32, 116, 104, 101, 110])
  | .rd x => headT 8 ++ textT x
  | .pr y => headT 9 ++ textT y
def OkX (x : E) : Prop := OkE x ∧ wtE x ≤ 90000 ∧ (textT x).length ≤ 1000000
/-- a statement that may be told -/
def OkS : PS → Prop
  | .plain k => k = 0 ∨ k = 4 ∨ k = 6 ∨ k = 7
  | .decl m => m ≠ [] ∧ (∀ x ∈ m, OkItem x) ∧ m.length ≤ 1000000 ∧ (Lib.join (m.map itemP) [44, 32]).length ≤ 1000000
  | .set x y => OkX x ∧ OkX y
  | .loop nm x y st => OkX x ∧ OkX y ∧ nm.length ≤ 1000 ∧ -9223372036854775808 ≤ st ∧ st ≤ 9223372036854775807
  | .cond o x y => OkX x ∧ OkX y ∧ o.length ≤ 1000
  | .rd x => OkX x
  | .pr y => OkX y
theorem text_all {B : Nat} {cs : Array Value} {ps : PS} {w : World} (h : Holds B w cs ps) (ho : OkS ps) (ht : Tab w) : Calls Tryz.prog 27 #[.agg cs] w fun e w' => e = .returned (.string ⟨(stText ps).toArray⟩) ∧ Below w.heap.size w w' := by
  cases ps with
  | plain k => subst h; exact text_plain k ho w
  | decl m => obtain ⟨v, M, rfl, _, hi, hm⟩ := h; exact text_decl m v M _ w hi hm ho.1 ho.2.1 ho.2.2.1 ho.2.2.2 ht
  | set x y => obtain ⟨a, n, c, a', n', c', rfl, hx, hy⟩ := h; exact text_set x y a a' n c n' c' _ w hx hy ho.1.1 ho.2.1 ht ho.1.2.1 ho.2.2.1 ho.1.2.2 ho.2.2.2
  | loop nm x y st => obtain ⟨a, n, c, a', n', c', rfl, hx, hy⟩ := h; exact text_loop nm x y st a a' n c n' c' _ w hx hy ho.1.1 ho.2.1.1 ht ho.1.2.1 ho.2.1.2.1 ho.1.2.2 ho.2.1.2.2 ho.2.2.1 ho.2.2.2.1 ho.2.2.2.2
  | cond o x y => obtain ⟨a, n, c, a', n', c', rfl, hx, hy⟩ := h; exact text_cond o x y a a' n c n' c' _ w hx hy ho.1.1 ho.2.1.1 ht ho.1.2.1 ho.2.1.2.1 ho.1.2.2 ho.2.1.2.2 ho.2.2
  | rd x => obtain ⟨a, n, c, rfl, hx⟩ := h; exact text_rd x a n c _ w hx ho.1 ht ho.2.1 ho.2.2
  | pr x => obtain ⟨a, n, c, rfl, hx⟩ := h; exact text_pr x a n c _ w hx ho.1 ht ho.2.1 ho.2.2
theorem okX_of {x : E} (h : okB 9 x = true) (hw : wtE x ≤ 90000) (hl : (textT x).length ≤ 1000000) : OkX x := ⟨okB_ok 9 x h, hw, hl⟩
/-- a load of a whole statement where its guard says yes -/
theorem wpList_loadRowG {ops : Array Oper} {rest : List Oper} {op : Oper} {a : Act} {w : World} {Q : Exit → Act → World → Prop} (hw : Region.wanted op (yielded ops a.tmps) = true) (x : Operand) (ho : op.op = .load STT x) (g : Nat) (c : Array Value)
    (hx : a.eval x = .pointer (some ⟨g, 0, none⟩)) (hs : StAt w g c)
    (h : wpList Tryz.prog ops Q rest (a.put op.dst (.agg c)) w) : wpList Tryz.prog ops Q (op :: rest) a w :=
  BigFrame.wpList_want hw fun _ hK => wp_load_row STT x ho g hx STT c (0, 0) _ hs.1 Tryz.underlying67 rfl (by rw [hs.2]; exact infoS) (hK _ _ h)
end Go.Proofs.YthkbchefjagbbaaGreatDoor.Line
