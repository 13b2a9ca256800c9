/- Plain facts on texts as lists of bytes: lines, which line may not be, a line's parts, its indent. Nothing of the program is named.
   The contracts of strings.Builder's WriteString and String and the laying of strings.TrimLeft at this program: the library s theorems, laid at its numbers.
   The contract of a line's indent: line.Indent.
   What stage 4's walks ask of the project's Line, of known, of Tells; where words lie, how many there are.
   The contract of the project's Line. -/
import Derived.Lib.Strings
import Derived.Lib.Bytealg
import Derived.Shelf.Strings.BuilderK
import Derived.Shelf.Strings.Trim
import Derived.Shelf.Strings.SlTrimAscii
import Derived.Test.YtepnafnljfjeoaaGreatDoorProg
import Derived.Test.YtepnafnljfjeoaaGreatDoorBaseAll
import Derived.Test.YtepnafnljfjeoaaGreatDoorPlainAll
import Derived.Test.YtepnafnljfjeoaaGreatDoorTokA
import Derived.Test.YtepnafnljfjeoaaGreatDoorTokB
namespace Go.Proofs.YtepnafnljfjeoaaGreatDoor.Plain
open Go

/-- the length of the first line, its end counted -/
def fl : List UInt8 → Nat
  | [] => 0
  | c :: r => if c = 10 then 1 else fl r + 1
/-- a text in lines, each with its end -/
def lines : List UInt8 → List (List UInt8)
  | [] => []
  | c :: r => if c = 10 then [c] :: lines r else match lines r with
    | [] => [[c]]
    | l :: ls => (c :: l) :: ls
/-- may the byte stand in a text? -/
def okB (c : UInt8) : Bool := (decide (32 ≤ c.toNat) && decide (c.toNat ≤ 126)) || (c.toNat == 9) || (c.toNat == 10)
/-- a line's error: 4: too long; 3: a byte that may not be; 0: none -/
def bad (l : List UInt8) : Nat := if 200 < l.length then 4 else if l.all okB then 0 else 3
def errOf : List (List UInt8) → Nat
  | [] => 0
  | l :: ls => if bad l = 0 then errOf ls else bad l
def atOf : List (List UInt8) → Nat
  | [] => 0
  | l :: ls => if bad l = 0 then atOf ls + 1 else 0
/-- a text's error, its place, its word, its lines -/
def errS (s : List UInt8) : Nat := if 65536 < s.length then 4 else errOf (lines s)
def atS (s : List UInt8) : Nat := if 65536 < s.length then 0 else if errOf (lines s) = 0 then 0 else atOf (lines s)
def wordS (s : List UInt8) : List UInt8 := if 65536 < s.length then [116, 101, 120, 116] else [108, 105, 110, 101]
def rowS (s : List UInt8) : List (List UInt8) := if errS s = 0 then lines s else []

theorem fl_le (l : List UInt8) : fl l ≤ l.length := by
  induction l with
  | nil => simp [fl]
  | cons c r ih => unfold fl; split <;> simp <;> omega
theorem fl_pos (l : List UInt8) (h : l ≠ []) : 0 < fl l := by
  cases l with
  | nil => exact absurd rfl h
  | cons c r => unfold fl; split <;> omega
theorem fl_idx (l : List UInt8) : (0 ≤ Lib.indexByte l 10 → (fl l : Int) = Lib.indexByte l 10 + 1) ∧ (¬ 0 ≤ Lib.indexByte l 10 → fl l = l.length) := by
  induction l with
  | nil => simp [fl, Lib.indexByte]
  | cons c r ih =>
    have hg := Lib.indexByte_ge r 10
    unfold fl Lib.indexByte
    by_cases hc : c = 10
    · simp [hc]
    · have hc' : (c == 10) = false := by simpa using hc
      simp only [hc', if_neg hc, Bool.false_eq_true, if_false]
      by_cases h : Lib.indexByte r 10 = -1
      · simp [h]; have := ih.2 (by omega); omega
      · have h' : (Lib.indexByte r 10 == -1) = false := by simpa using h
        simp only [h', Bool.false_eq_true, if_false, List.length_cons]
        have := ih.1 (by omega)
        constructor <;> intro _ <;> omega
theorem fl_at (l : List UInt8) (k : Nat) (hk : k < l.length) (h : l[k] = 10) (hno : ∀ j (hj : j < k), l[j]'(by omega) ≠ 10) : fl l = k + 1 := by
  induction l generalizing k with
  | nil => simp at hk
  | cons c r ih =>
    unfold fl
    cases k with
    | zero => simp at h; simp [h]
    | succ k =>
      have h0 : c ≠ 10 := hno 0 (by omega)
      rw [if_neg h0, ih k (by simpa using hk) (by simpa using h) (fun j hj => by simpa using hno (j + 1) (by omega))]
theorem fl_all (l : List UInt8) (hno : ∀ j (hj : j < l.length), l[j] ≠ 10) : fl l = l.length := by
  induction l with
  | nil => rfl
  | cons c r ih =>
    unfold fl
    have h0 : c ≠ 10 := hno 0 (by simp)
    rw [if_neg h0, ih (fun j hj => hno (j + 1) (by simpa using hj))]
    rfl
theorem lines_step (l : List UInt8) (h : l ≠ []) : lines l = l.take (fl l) :: lines (l.drop (fl l)) := by
  induction l with
  | nil => exact absurd rfl h
  | cons c r ih =>
    by_cases hc : c = 10
    · simp [lines, fl, hc]
    · have e1 : fl (c :: r) = fl r + 1 := by simp [fl, hc]
      rw [e1, List.take_succ_cons, List.drop_succ_cons]
      conv => lhs; unfold lines
      rw [if_neg hc]
      by_cases hr : r = []
      · subst hr; simp [lines, fl]
      · rw [ih hr]
theorem lines_nil : lines [] = [] := rfl
theorem lines_ne (l : List UInt8) (h : l ≠ []) : lines l ≠ [] := by rw [lines_step l h]; simp
theorem flatten_lines (l : List UInt8) : (lines l).flatten = l := by
  induction l with
  | nil => rfl
  | cons c r ih =>
    unfold lines
    by_cases hc : c = 10
    · simp [hc, ih]
    · rw [if_neg hc]
      cases hl : lines r with
      | nil => rw [hl] at ih; simp at ih; simp [← ih]
      | cons a b => rw [hl] at ih; simp at ih; simp [ih]
theorem lines_append (a b : List UInt8) (h : a = [] ∨ a.getLast? = some 10) : lines (a ++ b) = lines a ++ lines b := by
  induction a with
  | nil => rfl
  | cons c r ih =>
    rw [List.cons_append]
    conv => lhs; unfold lines
    conv => rhs; lhs; unfold lines
    by_cases hc : c = 10
    · rw [if_pos hc, if_pos hc]
      have : r = [] ∨ r.getLast? = some 10 := by
        rcases h with h | h
        · cases h
        · by_cases hr : r = []
          · exact .inl hr
          · right; rwa [List.getLast?_cons_of_ne_nil hr] at h
      rw [ih this]; rfl
    · rw [if_neg hc, if_neg hc]
      have hr : r ≠ [] := by
        intro hr; subst hr
        rcases h with h | h
        · cases h
        · simp at h; exact hc h
      have h2 : r.getLast? = some 10 := by
        rcases h with h | h
        · cases h
        · rwa [List.getLast?_cons_of_ne_nil hr] at h
      rw [ih (.inr h2)]
      have := lines_ne r hr
      cases hl : lines r with
      | nil => exact absurd hl this
      | cons x y => simp
theorem lines_length_le (l : List UInt8) : (lines l).length ≤ l.length := by
  induction l with
  | nil => simp [lines]
  | cons c r ih =>
    unfold lines
    split
    · simp; omega
    · split <;> simp_all <;> omega
theorem lines_mem_le (l : List UInt8) : ∀ x ∈ lines l, x.length ≤ l.length := by
  intro x hx
  have h := flatten_lines l
  have : x.length ≤ (lines l).flatten.length := by
    exact (List.sublist_flatten_of_mem hx).length_le
  rwa [h] at this

theorem bad_range (l : List UInt8) : bad l = 0 ∨ bad l = 3 ∨ bad l = 4 := by
  unfold bad
  split
  · exact .inr (.inr rfl)
  · split
    · exact .inl rfl
    · exact .inr (.inl rfl)
theorem bad_long (l : List UInt8) (h : 200 < l.length) : bad l = 4 := by simp [bad, h]
theorem bad_word (l : List UInt8) (h : ¬ 200 < l.length) (k : Nat) (hk : k < l.length) (hb : okB l[k] = false) : bad l = 3 := by
  unfold bad
  rw [if_neg h, if_neg]
  intro hall
  have := List.all_eq_true.1 hall _ (List.getElem_mem hk)
  rw [hb] at this; cases this
theorem bad_none (l : List UInt8) (h : ¬ 200 < l.length) (hb : ∀ k (hk : k < l.length), okB l[k] = true) : bad l = 0 := by
  unfold bad
  rw [if_neg h, if_pos]
  rw [List.all_eq_true]
  intro x hx
  obtain ⟨k, hk, rfl⟩ := List.getElem_of_mem hx
  exact hb k hk

theorem errOf_append (ds ls : List (List UInt8)) (h : ∀ d ∈ ds, bad d = 0) : errOf (ds ++ ls) = errOf ls := by
  induction ds with
  | nil => rfl
  | cons d ds ih => simp [errOf, h d (by simp), ih (fun x hx => h x (by simp [hx]))]
theorem atOf_append (ds ls : List (List UInt8)) (h : ∀ d ∈ ds, bad d = 0) : atOf (ds ++ ls) = ds.length + atOf ls := by
  induction ds with
  | nil => simp
  | cons d ds ih => simp [atOf, h d (by simp), ih (fun x hx => h x (by simp [hx]))]; omega
theorem errOf_hit (d : List UInt8) (ls : List (List UInt8)) (h : bad d ≠ 0) : errOf (d :: ls) = bad d ∧ atOf (d :: ls) = 0 := by simp [errOf, atOf, h]
theorem errOf_zero (ds : List (List UInt8)) : errOf ds = 0 ↔ ∀ d ∈ ds, bad d = 0 := by
  induction ds with
  | nil => simp [errOf]
  | cons d ds ih =>
    by_cases hd : bad d = 0
    · simp [errOf, hd, ih]
    · simp [errOf, hd]
theorem errOf_range (ls : List (List UInt8)) : errOf ls = 0 ∨ errOf ls = 3 ∨ errOf ls = 4 := by
  induction ls with
  | nil => simp [errOf]
  | cons d ds ih => unfold errOf; split; exact ih; exact bad_range d
theorem err_at (ls : List (List UInt8)) (i : Nat) (hi : i < ls.length) (hno : ∀ j (hj : j < i), bad (ls[j]'(by omega)) = 0) (hb : bad ls[i] ≠ 0) : errOf ls = bad ls[i] ∧ atOf ls = i := by
  have e : ls = ls.take i ++ (ls[i] :: ls.drop (i + 1)) := by rw [List.getElem_cons_drop]; simp
  have h : ∀ d ∈ ls.take i, bad d = 0 := by
    intro d hd
    obtain ⟨j, hj, rfl⟩ := List.getElem_of_mem hd
    rw [List.getElem_take]
    exact hno j (by simp at hj; omega)
  have h2 := errOf_hit ls[i] (ls.drop (i + 1)) hb
  have h3 : errOf ls = errOf (ls.take i ++ (ls[i] :: ls.drop (i + 1))) := congrArg errOf e
  have h4 : atOf ls = atOf (ls.take i ++ (ls[i] :: ls.drop (i + 1))) := congrArg atOf e
  rw [h3, h4, errOf_append _ _ h, atOf_append _ _ h, h2.1, h2.2]
  simp
  omega
theorem errS_range (s : List UInt8) : errS s = 0 ∨ errS s = 3 ∨ errS s = 4 := by unfold errS; split; simp; exact errOf_range _
theorem errS_long (s : List UInt8) (h : 65536 < s.length) : errS s = 4 ∧ atS s = 0 ∧ wordS s = [116, 101, 120, 116] ∧ rowS s = [] := by simp [errS, atS, wordS, rowS, h]
theorem errS_ok (s : List UInt8) (h : ¬ 65536 < s.length) (h2 : ∀ d ∈ lines s, bad d = 0) : errS s = 0 ∧ rowS s = lines s := by
  have := (errOf_zero (lines s)).2 h2
  simp [errS, rowS, h, this]
theorem errS_bad (s : List UInt8) (h : ¬ 65536 < s.length) (k e : Nat) (h1 : errOf (lines s) = e) (h2 : atOf (lines s) = k) (h0 : e ≠ 0) : errS s = e ∧ atS s = k ∧ wordS s = [108, 105, 110, 101] ∧ rowS s = [] := by
  simp [errS, atS, wordS, rowS, h, h1, h2, h0]
theorem rowS_le (s : List UInt8) : (rowS s).length ≤ s.length := by
  unfold rowS; split; exact lines_length_le s; simp

/-! ### parts -/
def core (s : List UInt8) : List UInt8 := if s.getLast? = some 10 then s.dropLast else s
def endOf (s : List UInt8) : List UInt8 := if s.getLast? = some 10 then [10] else []
def bodyOf (s : List UInt8) : List UInt8 := (core s).takeWhile (fun c => decide (c ≠ 33))
def noteOf (s : List UInt8) : List UInt8 := (core s).dropWhile (fun c => decide (c ≠ 33))
def blankB (c : UInt8) : Bool := c == 32 || c == 9
def indentOf (s : List UInt8) : List UInt8 := s.takeWhile blankB

theorem core_end (s : List UInt8) : core s ++ endOf s = s := by
  unfold core endOf
  by_cases h : s.getLast? = some 10
  · rw [if_pos h, if_pos h]
    obtain ⟨r, rfl⟩ := List.getLast?_eq_some_iff.1 h
    simp
  · simp [h]
theorem parts_join (s : List UInt8) : bodyOf s ++ noteOf s ++ endOf s = s := by
  unfold bodyOf noteOf; rw [List.takeWhile_append_dropWhile]; exact core_end s
theorem while_mem (p : UInt8 → Bool) (l : List UInt8) : ∀ x ∈ l.takeWhile p, p x = true := by
  induction l with
  | nil => simp
  | cons c r ih =>
    intro x hx
    rw [List.takeWhile_cons] at hx
    by_cases hc : p c = true
    · rw [if_pos hc] at hx
      rcases List.mem_cons.1 hx with rfl | h
      · exact hc
      · exact ih x h
    · rw [if_neg hc] at hx; cases hx
theorem body_no (s : List UInt8) : ∀ (j : Nat) (h : j < (bodyOf s).length), (bodyOf s)[j] ≠ 33 := by
  intro j h
  have := while_mem _ _ _ (List.getElem_mem h)
  simpa using this
/-- where a byte stands: what stands ahead of it -/
theorem idx_while (l : List UInt8) (c : UInt8) : (0 ≤ Lib.indexByte l c → ((l.takeWhile (fun x => decide (x ≠ c))).length : Int) = Lib.indexByte l c ∧ (Lib.indexByte l c : Int) < l.length) ∧ (¬ 0 ≤ Lib.indexByte l c → l.takeWhile (fun x => decide (x ≠ c)) = l ∧ l.dropWhile (fun x => decide (x ≠ c)) = []) := by
  induction l with
  | nil => simp [Lib.indexByte]
  | cons b r ih =>
    have hg := Lib.indexByte_ge r c
    unfold Lib.indexByte
    by_cases hc : b = c
    · simp [hc]
    · have hc' : (b == c) = false := by simpa using hc
      have hd : decide (b ≠ c) = true := by simpa using hc
      simp only [hc', Bool.false_eq_true, if_false, List.takeWhile_cons, hd, List.dropWhile_cons]
      by_cases h : Lib.indexByte r c = -1
      · have := ih.2 (by omega)
        simp only [h, this.1, this.2]
        simp
      · have h' : (Lib.indexByte r c == -1) = false := by simpa using h
        simp only [h', Bool.false_eq_true, if_false, if_true, List.length_cons]
        have := ih.1 (by omega)
        constructor
        · intro _; constructor <;> omega
        · intro _; omega
theorem take_while (l : List UInt8) (p : UInt8 → Bool) : l.take (l.takeWhile p).length = l.takeWhile p ∧ l.drop (l.takeWhile p).length = l.dropWhile p := by
  have h := List.takeWhile_append_dropWhile (p := p) (l := l)
  constructor
  · have := List.take_left (l₁ := l.takeWhile p) (l₂ := l.dropWhile p); rwa [h] at this
  · have := List.drop_left (l₁ := l.takeWhile p) (l₂ := l.dropWhile p); rwa [h] at this
theorem while_at (l : List UInt8) (p : UInt8 → Bool) (i : Nat) (hi : i ≤ l.length) (h1 : ∀ j (hj : j < i), p (l[j]'(by omega)) = true) (h2 : ∀ (h : i < l.length), p l[i] = false) : (l.takeWhile p).length = i := by
  induction l generalizing i with
  | nil => simp at hi; simp [hi]
  | cons c r ih =>
    cases i with
    | zero => have := h2 (by simp); simp at this; simp [this]
    | succ i =>
      have h0 : p c = true := h1 0 (by omega)
      simp only [List.takeWhile_cons, h0, if_true, List.length_cons]
      rw [ih i (by simpa using hi) (fun j hj => h1 (j + 1) (by omega)) (fun h => h2 (by simpa using h))]
end Go.Proofs.YtepnafnljfjeoaaGreatDoor.Plain

namespace Go.Proofs.YtepnafnljfjeoaaGreatDoor
open Go.Shelf
def lays166_ren : Go.Shelf.Ren := ⟨fun | 166 => 25 | 240 => 48 | 276 => 69 | n => n, fun | 0 => 0 | 3 => 3 | 4 => 4 | 9 => 9 | 20 => 20 | 37 => 65 | 70 => 64 | 72 => 67 | 75 => 43 | 164 => 128 | 76 => 72 | 80 => 76 | 5 => 5 | n => n, fun | n => n⟩
theorem lays166 : Go.Proofs.Lays.n166 Tryz.prog lays166_ren := {
  mixed := by kernel_rfl
  f166 := Tryz.func25.trans (congrArg some (by kernel_rfl))
  f240 := Tryz.func48.trans (congrArg some (by kernel_rfl))
  f276 := Tryz.func69.trans (congrArg some (by kernel_rfl))
  t0 := Tryz.underlying0
  a0 := Tryz.isAgg0
  z0 := Tryz.sizeOf0
  v0 := Tryz.zeroValue0
  t3 := Tryz.underlying3
  a3 := Tryz.isAgg3
  z3 := Tryz.sizeOf3
  v3 := Tryz.zeroValue3
  t4 := Tryz.underlying4
  a4 := Tryz.isAgg4
  z4 := Tryz.sizeOf4
  v4 := Tryz.zeroValue4
  t9 := Tryz.underlying9
  a9 := Tryz.isAgg9
  z9 := Tryz.sizeOf9
  v9 := Tryz.zeroValue9
  t20 := Tryz.underlying20
  a20 := Tryz.isAgg20
  z20 := Tryz.sizeOf20
  v20 := Tryz.zeroValue20
  t37 := Tryz.underlying65
  a37 := Tryz.isAgg65
  z37 := Tryz.sizeOf65
  v37 := Tryz.zeroValue65
  t70 := Tryz.underlying64
  a70 := Tryz.isAgg64
  z70 := Tryz.sizeOf64
  v70 := Tryz.zeroValue64
  t72 := Tryz.underlying67
  a72 := Tryz.isAgg67
  z72 := Tryz.sizeOf67
  v72 := Tryz.zeroValue67
  t75 := Tryz.underlying43
  a75 := Tryz.isAgg43
  z75 := Tryz.sizeOf43
  v75 := Tryz.zeroValue43
  t164 := Tryz.underlying128
  a164 := Tryz.isAgg128
  z164 := Tryz.sizeOf128
  v164 := Tryz.zeroValue128 }
theorem Builder_Extra_166 : Builder.Extra Tryz.prog lays166_ren := {
  sizeBuilder := by kernel_rfl
  liesBuilder := by kernel_rfl
  t5 := Tryz.underlying5
  a5 := Tryz.isAgg5
  z5 := Tryz.sizeOf5
  v5 := Tryz.zeroValue5
  infoByte := by kernel_rfl
  cellsByte := by kernel_rfl
  sizeByte := by kernel_rfl
  neB5 := by decide }
open Go.RowKit in
theorem Builder_WriteString (B b : Nat) (bs : List Value) (s : ByteArray) (w : World) (h : Lib.IsBuilderF 67 5 B b bs w) (hlen : bs.length + s.size ≤ 140737488355328) (hBw : B ≤ w.heap.size) :
    Calls Tryz.prog 25 #[.pointer (some ⟨b, 0, none⟩), .string s] w fun e w' => e = .returned (.tuple #[.int .i64 s.size, .nilIface]) ∧ (Lib.BuilderAtF 67 5 B b (.pointer (some ⟨b, 0, none⟩)) (bs ++ Lib.strCells s) w' ∧ Below B w w' ∧ Lib.OthersKept 5 (some b) w w') := Any.Builder_WriteString_k lays166 Builder_Extra_166 B b bs s w h hlen hBw
def lays169_ren : Go.Shelf.Ren := ⟨fun | 169 => 28 | n => n, fun | 70 => 64 | 9 => 9 | 0 => 0 | 72 => 67 | 37 => 65 | 127 => 112 | 3 => 3 | 5 => 5 | n => n, fun | n => n⟩
theorem lays169 : Go.Proofs.Lays.n169 Tryz.prog lays169_ren := {
  mixed := by kernel_rfl
  f169 := Tryz.func28.trans (congrArg some (by kernel_rfl))
  t0 := Tryz.underlying0
  a0 := Tryz.isAgg0
  z0 := Tryz.sizeOf0
  v0 := Tryz.zeroValue0
  t3 := Tryz.underlying3
  a3 := Tryz.isAgg3
  z3 := Tryz.sizeOf3
  v3 := Tryz.zeroValue3
  t9 := Tryz.underlying9
  a9 := Tryz.isAgg9
  z9 := Tryz.sizeOf9
  v9 := Tryz.zeroValue9
  t37 := Tryz.underlying65
  a37 := Tryz.isAgg65
  z37 := Tryz.sizeOf65
  v37 := Tryz.zeroValue65
  t70 := Tryz.underlying64
  a70 := Tryz.isAgg64
  z70 := Tryz.sizeOf64
  v70 := Tryz.zeroValue64
  t72 := Tryz.underlying67
  a72 := Tryz.isAgg67
  z72 := Tryz.sizeOf67
  v72 := Tryz.zeroValue67
  t127 := Tryz.underlying112
  a127 := Tryz.isAgg112
  z127 := Tryz.sizeOf112
  v127 := Tryz.zeroValue112 }
theorem Builder_Extra_169 : Builder.Extra Tryz.prog lays169_ren := {
  sizeBuilder := by kernel_rfl
  liesBuilder := by kernel_rfl
  t5 := Tryz.underlying5
  a5 := Tryz.isAgg5
  z5 := Tryz.sizeOf5
  v5 := Tryz.zeroValue5
  infoByte := by kernel_rfl
  cellsByte := by kernel_rfl
  sizeByte := by kernel_rfl
  neB5 := by decide }
open Go.RowKit in
theorem Builder_String_any (B b : Nat) (l : List UInt8) (w : World) (h : Lib.IsBuilderF 67 5 B b (Lib.byteCells l) w) (hBw : B ≤ w.heap.size) :
    Calls Tryz.prog 28 #[.pointer (some ⟨b, 0, none⟩)] w fun e w' => e = .returned (.string ⟨l.toArray⟩) ∧ (Lib.IsBuilderF 67 5 B b (Lib.byteCells l) w' ∧ Below B w w' ∧ Lib.OthersKept 5 (some b) w w') := Any.Builder_String_any_k lays169 Builder_Extra_169 B b l w h hBw
def lays161_ren : Go.Shelf.Ren := ⟨fun | 161 => 55 | 231 => 80 | 227 => 81 | 233 => 82 | 235 => 83 | 228 => 92 | 197 => 93 | 151 => 94 | 260 => 99 | 152 => 100 | 137 => 105 | 119 => 106 | 224 => 107 | 225 => 108 | 217 => 114 | 266 => 117 | n => n, fun | 9 => 9 | 4 => 4 | 3 => 3 | 5 => 5 | 117 => 148 | 116 => 147 | 0 => 0 | 124 => 151 | 105 => 172 | 21 => 21 | 119 => 187 | 46 => 180 | 139 => 190 | 138 => 189 | n => n, fun | 3 => 1 | 4 => 2 | n => n⟩
theorem lays161 : Go.Proofs.Lays.n161 Tryz.prog lays161_ren := {
  mixed := by kernel_rfl
  f119 := Tryz.func106.trans (congrArg some (by kernel_rfl))
  f137 := Tryz.func105.trans (congrArg some (by kernel_rfl))
  f151 := Tryz.func94.trans (congrArg some (by kernel_rfl))
  f152 := Tryz.func100.trans (congrArg some (by kernel_rfl))
  f161 := Tryz.func55.trans (congrArg some (by kernel_rfl))
  f197 := Tryz.func93.trans (congrArg some (by kernel_rfl))
  f217 := Tryz.func114.trans (congrArg some (by kernel_rfl))
  f224 := Tryz.func107.trans (congrArg some (by kernel_rfl))
  f225 := Tryz.func108.trans (congrArg some (by kernel_rfl))
  f227 := Tryz.func81.trans (congrArg some (by kernel_rfl))
  f228 := Tryz.func92.trans (congrArg some (by kernel_rfl))
  f231 := Tryz.func80.trans (congrArg some (by kernel_rfl))
  f233 := Tryz.func82.trans (congrArg some (by kernel_rfl))
  f235 := Tryz.func83.trans (congrArg some (by kernel_rfl))
  f260 := Tryz.func99.trans (congrArg some (by kernel_rfl))
  f266 := Tryz.func117.trans (congrArg some (by kernel_rfl))
  t0 := Tryz.underlying0
  a0 := Tryz.isAgg0
  z0 := Tryz.sizeOf0
  v0 := Tryz.zeroValue0
  t3 := Tryz.underlying3
  a3 := Tryz.isAgg3
  z3 := Tryz.sizeOf3
  v3 := Tryz.zeroValue3
  t4 := Tryz.underlying4
  a4 := Tryz.isAgg4
  z4 := Tryz.sizeOf4
  v4 := Tryz.zeroValue4
  t5 := Tryz.underlying5
  a5 := Tryz.isAgg5
  z5 := Tryz.sizeOf5
  v5 := Tryz.zeroValue5
  t9 := Tryz.underlying9
  a9 := Tryz.isAgg9
  z9 := Tryz.sizeOf9
  v9 := Tryz.zeroValue9
  t21 := Tryz.underlying21
  a21 := Tryz.isAgg21
  z21 := Tryz.sizeOf21
  v21 := Tryz.zeroValue21
  t46 := Tryz.underlying180
  a46 := Tryz.isAgg180
  z46 := Tryz.sizeOf180
  v46 := Tryz.zeroValue180
  t105 := Tryz.underlying172
  a105 := Tryz.isAgg172
  z105 := Tryz.sizeOf172
  v105 := Tryz.zeroValue172
  t116 := Tryz.underlying147
  a116 := Tryz.isAgg147
  z116 := Tryz.sizeOf147
  t117 := Tryz.underlying148
  a117 := Tryz.isAgg148
  z117 := Tryz.sizeOf148
  v117 := Tryz.zeroValue148
  t119 := Tryz.underlying187
  a119 := Tryz.isAgg187
  z119 := Tryz.sizeOf187
  t124 := Tryz.underlying151
  a124 := Tryz.isAgg151
  z124 := Tryz.sizeOf151
  v124 := Tryz.zeroValue151
  t138 := Tryz.underlying189
  a138 := Tryz.isAgg189
  z138 := Tryz.sizeOf189
  v138 := Tryz.zeroValue189
  t139 := Tryz.underlying190
  a139 := Tryz.isAgg190
  z139 := Tryz.sizeOf190
  v139 := Tryz.zeroValue190
  g3 := by kernel_rfl
  g4 := by kernel_rfl }
end Go.Proofs.YtepnafnljfjeoaaGreatDoor

namespace Go.Proofs.YtepnafnljfjeoaaGreatDoor.Line
open Go.ChangeShapes Go.WideShapes Go.ChangeAt Go.RowKit Plain
set_option linter.unusedVariables false

theorem trimLeft_any (l : List UInt8) (w : World) : Calls Tryz.prog 55 #[.string ⟨l.toArray⟩, .string ⟨#[32, 9]⟩] w fun e w' => e = .returned (.string ⟨(l.drop (indentOf l).length).toArray⟩) ∧ Below w.heap.size w w' := by
  have h := Any.strings_TrimLeft_laid lays161 (by kernel_rfl) (⟨l.toArray⟩ : ByteArray) ⟨#[32, 9]⟩ w (by decide) (fun j b hb => by
    match j, hb with
    | 0, hb => simp at hb; subst hb; decide
    | 1, hb => simp at hb; subst hb; decide
    | n + 2, hb => simp at hb)
  change Calls Tryz.prog 55 _ _ _ at h
  have e : Lib.trimLeftS (⟨l.toArray⟩ : ByteArray).data.toList (⟨#[32, 9]⟩ : ByteArray).data.toList = l.drop (indentOf l).length := by
    unfold Lib.trimLeftS indentOf
    rw [(take_while l blankB).2]
    show l.dropWhile _ = l.dropWhile _
    have hf : (fun c : UInt8 => List.contains [32, 9] c) = blankB := by
      funext c
      simp only [blankB, List.contains_cons, List.contains_nil, Bool.or_false]
    exact congrArg (fun p => l.dropWhile p) hf
  rw [e] at h
  exact h

set_option maxHeartbeats 1000000 in
theorem indent_any (l : List UInt8) (w : World) (hl : l.length ≤ 1000000) : Calls Tryz.prog 41 #[.string ⟨l.toArray⟩] w fun e w' => e = .returned (.string ⟨(indentOf l).toArray⟩) ∧ Below w.heap.size w w' := by
  have hle : (indentOf l).length ≤ l.length := by
    have := List.takeWhile_sublist (l := l) blankB
    exact this.length_le
  have HT : Hid (l.take (indentOf l).length = indentOf l) := (take_while l blankB).1
  generalize hn : (indentOf l).length = n at *
  have hcon := trimLeft_any l w
  rw [hn] at hcon
  have HC := hide hcon
  clear hcon hn
  have hd : (l.drop n).length = l.length - n := by simp
  go_enter Tryz.func41, Tryz.ntmps41
  go_wp2_with (go_at_call 55; refine (unhide HC).mono ?_; rintro e w' ⟨rfl, hB⟩)
  go_ret
  refine ⟨ret_val (congrArg Value.string ((ext_front _ _).trans (mk_eq ?_))), hB⟩
  rw [show l.length - (l.length - n) = n by omega]
  exact HT.out


theorem indent_len (l : List UInt8) : (indentOf l).length = (l.takeWhile Words.blankB).length := by
  have hf : Plain.blankB = Words.blankB := by
    funext c
    simp only [Plain.blankB, Words.blankB]
    have key : ∀ k : UInt8, (c == k) = decide (c.toNat = k.toNat) := fun k => by
      by_cases h : c = k
      · subst h; simp
      · rw [beq_eq_false_iff_ne.2 h, decide_eq_false (fun h2 => h (UInt8.toNat.inj h2))]
    rw [key 32, key 9]
    rfl
  unfold indentOf
  rw [hf]
end Go.Proofs.YtepnafnljfjeoaaGreatDoor.Line

namespace Go.Proofs.YtepnafnljfjeoaaGreatDoor.Line
open Go.ChangeShapes Go.WideShapes Go.ChangeAt Go.RowKit
set_option linter.unusedVariables false

/-- what is asked of the project's Line: the words are the reference's; what is wrong is told at the reference's place, as the same error or as a near one -/
def LineSpec : Prop := ∀ (l : List UInt8) (w : World), l.length ≤ 100000 → Calls Tryz.prog 17 #[.string ⟨l.toArray⟩] w fun e w' =>
    ∃ u g err, e = .returned (.tuple #[u, g]) ∧ OwnT 90 w.heap.size w' u (Words.toks l).1 ∧ Says w.heap.size w' g wWord (Words.toks l).2.2 err ∧ Words.Near (Words.toks l).2.1 err ∧ Below w.heap.size w w'
def TellsSpec : Prop := ∀ (w : World) (f g : Value) (k err B B' : Nat), Glob w → Says B w f wWord k err → Told B' w g wWord k err → Calls Tryz.prog 19 #[f, g] w fun e w' => e = .returned (.bool true) ∧ Below w.heap.size w w'
theorem told_agg {B : Nat} {w : World} {g : Value} {word : List UInt8} {k err : Nat} (h : Told B w g word k err) : ∃ a n, g = .agg #[.slice a n n, .int .i64 err] := by
  rcases h with ⟨rfl, rfl⟩ | ⟨_, b, _, rfl, _⟩
  · exact ⟨none, 0, rfl⟩
  · exact ⟨_, 1, rfl⟩
theorem toks_good (l : List UInt8) : Words.Good l 0 (Words.toks l).1 := by
  by_cases h : (Words.toks l).2.1 = 0
  · exact Words.scanAt_good l 0 h
  · rw [show (Words.toks l).1 = [] from (Words.scanAt_form l 0).2 h]; trivial
theorem toks_count (l : List UInt8) : (Words.toks l).1.length ≤ l.length := by
  have key : ∀ (T : List Words.T) a, Words.Good l a T → (∀ t ∈ T, 0 < t.text.length) → a + T.length ≤ l.length ∨ T = [] := by
    intro T
    induction T with
    | nil => intro a _ _; exact .inr rfl
    | cons t T ih =>
      intro a h hp
      obtain ⟨h1, h2, _, _, h5⟩ := h
      have h6 := hp t (List.mem_cons_self ..)
      rcases ih _ h5 (fun x hx => hp x (List.mem_cons_of_mem _ hx)) with h7 | h7
      · left; rw [List.length_cons]; omega
      · left; subst h7; simp; omega
  have hpos : ∀ i, ∀ t ∈ (Words.scanAt l i).1, 0 < t.text.length := by
    refine Words.scanAt_ind l _ (fun i h => ?_) (fun i h hs ih => ?_) (fun i e o h hs => ?_) (fun i kd n k h hs ih => ?_)
    · rw [Words.scanAt_end l i h]; intro t ht; cases ht
    · rw [Words.scanAt_blank h hs]; exact ih
    · rw [Words.scanAt_bad h hs]; intro t ht; cases ht
    · rw [Words.scanAt_tok h hs]
      unfold Words.also
      split
      · intro t ht
        rcases List.mem_cons.1 ht with rfl | h2
        · have hk := Words.step_len hs
          show 0 < ((l.drop i).take k).length
          rw [List.length_take]; omega
        · exact ih t h2
      · intro t ht; cases ht
  rcases key _ 0 (toks_good l) (hpos 0) with h | h
  · omega
  · rw [h]; simp
end Go.Proofs.YtepnafnljfjeoaaGreatDoor.Line

namespace Go.Proofs.YtepnafnljfjeoaaGreatDoor.Line
open Go.ChangeShapes Go.WideShapes Go.ChangeAt Go.RowKit
set_option linter.unusedVariables false

/-- one word more (the project's) -/
theorem append_tok {base : Nat} {w : World} {s : Value} {l : List Words.T} (hs : OwnT 90 base w s l) (t : Words.T) (hb : base ≤ w.heap.size) (hl : l.length + 1 ≤ 1000000) :
    ∃ v' w', (Builtin.append_ #[46, 46] 46 #[s, .slice (some ⟨w.heap.size, 0, none⟩) 1 1]).run Tryz.prog (w.alloc (.cells #[.int .i64 t.kind, .string ⟨t.text.toArray⟩, .int .i64 t.pos, .int .i64 t.n] 90)) = .ok v' w' ∧ OwnT 90 base w' v' (l ++ [t]) ∧ (w.alloc (.cells #[.int .i64 t.kind, .string ⟨t.text.toArray⟩, .int .i64 t.pos, .int .i64 t.n] 90)).grownBy w' s.ownBlock := by
  obtain ⟨i0, hi, hz0, hz1, hz2⟩ := info_parts infoTok
  obtain ⟨v', w', hr, ho, hgr, _⟩ := run_append_own (P := Tryz.prog) (w.alloc (.cells #[.int .i64 t.kind, .string ⟨t.text.toArray⟩, .int .i64 t.pos, .int .i64 t.n] 90)) base 46 46 90 i0 _ 4 40 Tryz.underlying46 hi hz0 hz1 hz2 rfl (by decide) s l.length (flatT l) (World.ownsRow.alloc hs _) ⟨w.heap.size, 0, none⟩ 1 1 (tokV t) rfl
    (World.news_of_block (cs := #[.int .i64 t.kind, .string ⟨t.text.toArray⟩, .int .i64 t.pos, .int .i64 t.n]) (t := 90) (fr := (0, 0)) (by show (w.heap.push _)[w.heap.size]? = _; exact Array.getElem?_push_size))
    (by intro u hu; simp [tokV] at hu; rcases hu with rfl | rfl | rfl | rfl <;> rfl) (by unfold maxLen; omega) (by omega) (by simp; omega)
  refine ⟨v', w', hr, ?_, hgr⟩
  unfold OwnT
  rw [flatT_snoc, List.length_append]
  exact ho
/-- an append of such words in a plain region, by its run -/
theorem wpList_append_runD {ops : Array Oper} {rest : List Oper} {o : Oper} {a : Act} {w : World} {Q : Exit → Act → World → Prop} (hgd : o.guard = none) (s x : Operand)
    (ho : o.op = .call { callee := .builtin .append, args := #[s, x], argTypes := #[46, 46] }) (hty : o.type = 46) (sv xv : Value) (hs : a.eval s = sv) (hx : a.eval x = xv) (v' : Value) (w' : World)
    (hr : (Builtin.append_ #[46, 46] 46 #[sv, xv]).run Tryz.prog w = .ok v' w') (h : wpList Tryz.prog ops Q rest (a.put o.dst v') w') : wpList Tryz.prog ops Q (o :: rest) a w := by
  refine wpList_plain hgd fun K hK => ?_
  unfold Oper.wp execOp
  simp only [ho, hty, resolve, invoke, builtin, Sem.run_bind, Sem.run_pure, Result.andThen_ok, List.map_toArray, List.map_cons, List.map_nil, hs, hx, hr]
  exact hK _ _ h

set_option maxHeartbeats 8000000 in
set_option maxRecDepth 100000 in
theorem line_any : LineSpec := by
  intro l w hl
  have HR0 := hide (Words.round l)
  have HI0 := hide (Words.inv_start l)
  generalize Words.toks l = R at *
  go_enter Tryz.func17, Tryz.ntmps17
  go_wp2_with fail
  go_loopw [4, 5] (fun x y wr => ∃ (e : Nat) (done : List Words.T), e ≤ l.length ∧ y = .int .i64 e ∧ done.length ≤ e ∧ Hid (Words.Inv l done e) ∧ Hid (OwnT 90 w.heap.size wr x done) ∧ Hid (Below w.heap.size w wr)) (fun _ y _ => l.length - (intOf y).toNat)
  case atStart => exact ⟨0, [], Nat.zero_le _, rfl, Nat.le_refl _, HI0, hide (OwnT.nil _ _ _), hide (Below.refl _ _)⟩
  case round =>
    obtain ⟨e, done, he, rfl, hdl, HI, HO, HB⟩ := hrel
    have hel : (e : Int) ≤ l.length := by omega
    obtain ⟨Y, hY⟩ : ∃ Y, Plain.indentOf (l.drop e) = Y := ⟨_, rfl⟩
    have hYl : Y.length = ((l.drop e).takeWhile Words.blankB).length := by rw [← hY, indent_len]
    have hYb : Y.length ≤ l.length - e := by rw [hYl, ← List.length_drop]; exact (List.takeWhile_prefix _).length_le
    obtain ⟨a, ha⟩ : ∃ a, e + Y.length = a := ⟨_, rfl⟩
    have hR := unhide HR0 done e a (unhide HI) he (by rw [← hYl]; exact ha)
    have HR := hide hR
    have HIN := hide (fun W => indent_any (l.drop e) W (by rw [List.length_drop]; omega))
    rw [hY] at HIN
    clear hR hYl hY HR0 HI0
    obtain ⟨X, hX⟩ : ∃ X, l.drop e = X := ⟨_, rfl⟩
    have hxe : (⟨l.toArray⟩ : ByteArray).extract e l.length = ⟨X.toArray⟩ := by rw [ext_end, hX]
    rw [hX] at HIN
    clear hX
    have hae : (e : Int) + Y.length = a := by omega
    go_wp2_with fail
    refine (unhide HIN _).mono ?_
    rintro ev w1 ⟨rfl, hb1⟩
    have HB1 := hide hb1
    clear hb1
    obtain ⟨au, cu, rfl⟩ := (unhide HO).tks.shape
    by_cases hal : a = l.length
    · have HRR := hide ((unhide HR).1 hal)
      have q1 : ((a : Int) == l.length) = true := by rw [beq_iff_eq]; omega
      go_wp2
      go_ret2
      rw [unhide HRR]
      exact ⟨_, _, 0, rfl, (unhide HO).below (unhide HB1), .inl ⟨rfl, rfl⟩, .inl rfl, bthen (unhide HB) (unhide HB1)⟩
    · have hal2 : a < l.length := by omega
      have hal3 : (a : Int) ≤ l.length := by omega
      have q1 : ((a : Int) == l.length) = false := by rw [beq_eq_false_iff_ne]; omega
      have HF := hide (fun W => first_any (l.drop a) W (by rw [List.length_drop]; omega) (by rw [List.length_drop]; omega))
      have HRR := hide ((unhide HR).2 hal2)
      obtain ⟨Z, hZ⟩ : ∃ Z, l.drop a = Z := ⟨_, rfl⟩
      have hze : (⟨l.toArray⟩ : ByteArray).extract a l.length = ⟨Z.toArray⟩ := by rw [ext_end, hZ]
      rw [hZ] at HF HRR
      clear hZ HR
      go_wp2_with fail
      refine (unhide HF _).mono ?_
      rintro ev w2 ⟨rfl, hb2⟩
      have HB2 := hide hb2
      clear hb2
      rcases unhide HRR with ⟨⟨rk, rt, rp, rn⟩, f1, hae2, hcl, hR⟩ | ⟨⟨rk, rt, rp, rn⟩, f1, hncl, hinv, hpos, hlen⟩ | ⟨err, f1, he0, hr1, hr2, hr3⟩
      · rw [f1]
        clear HRR f1 HF
        subst hae2
        have HC := hide (fun W (hT : Tks W (.slice au done.length cu) done) => clings_any _ done ⟨rk, rt, rp, rn⟩ W hT (by omega))
        rw [hcl] at HC
        have HRR := hide hR
        clear hcl hR
        unfold tokA errV at *
        rw [if_pos rfl]
        have hb12 : Below wr.heap.size wr w2 := bthen (unhide HB1) (unhide HB2)
        have hb3 : Below wr.heap.size wr (w2.alloc (.cells #[.int .i64 rk, .string ⟨rt.toArray⟩, .int .i64 0, .int .i64 rn] 90)) := bthen hb12 (alloc_below _ _)
        have HT3 := hide ((unhide HO).below hb3).tks
        have HB3 := hide (bthen (unhide HB) hb3)
        clear hb12 hb3
        go_wp2_with fail
        refine (unhide HC _ (unhide HT3)).mono ?_
        rintro ev w4 ⟨rfl, hb4⟩
        have HB4 := hide (bthen (unhide HB3) hb4)
        clear hb4
        go_wp2
        go_ret2
        rw [unhide HRR]
        exact ⟨_, _, 3, rfl, OwnT.nil _ _ _, .inr ⟨by decide, w4.heap.size, (unhide HB4).size, rfl, by simp, by simp, by simp⟩, .inl rfl, bthen (unhide HB4) (alloc_below _ _)⟩
      · rw [f1]
        clear HRR f1 HF
        have HK := hide (And.intro hinv (And.intro hpos hlen))
        clear hinv
        have hs5 : wr.heap.size ≤ w2.heap.size := Nat.le_trans (unhide HB1).size (unhide HB2).size
        have hb12 : Below wr.heap.size wr w2 := bthen (unhide HB1) (unhide HB2)
        have hlen2 : a + rt.length ≤ l.length := hlen
        have hrt : rt.length ≤ 100000 := by omega
        have hrt2 : a + rt.length ≤ 100000 := by omega
        have hpos2 : 0 < rt.length := hpos
        unfold errV
        rw [if_pos rfl]
        by_cases hc : a = e
        · have q2 : ((a : Int) == e) = true := by rw [beq_iff_eq]; omega
          have HC := hide (fun W (hT : Tks W (.slice au done.length cu) done) => clings_any _ done ⟨rk, rt, rp, rn⟩ W hT (by omega))
          have hncl2 : Words.clingsB done rk = false := by
            cases h : Words.clingsB done rk
            · rfl
            · exact absurd ⟨hc, h⟩ hncl
          have HC2 : Hid (∀ W (hT : Tks W (.slice au done.length cu) done), Calls Tryz.prog 43 #[.slice au done.length cu, .agg #[.int .i64 rk, .string ⟨rt.toArray⟩, .int .i64 0, .int .i64 rn]] W fun e w' => e = .returned (.bool false) ∧ Below W.heap.size W w') := hide (fun W hT => by have := unhide HC W hT; rwa [show Words.clingsB done (Words.T.mk rk rt rp rn).kind = false from hncl2] at this)
          have hb3 : Below wr.heap.size wr (w2.alloc (.cells #[.int .i64 rk, .string ⟨rt.toArray⟩, .int .i64 0, .int .i64 rn] 90)) := bthen hb12 (alloc_below _ _)
          have HT3 := hide ((unhide HO).below hb3).tks
          have hc0 : (w2.alloc (.cells #[.int .i64 rk, .string ⟨rt.toArray⟩, .int .i64 0, .int .i64 rn] 90)).cell? ⟨w2.heap.size, 0, none⟩ = some (.int .i64 rk) := by simp
          have hc1 : (w2.alloc (.cells #[.int .i64 rk, .string ⟨rt.toArray⟩, .int .i64 0, .int .i64 rn] 90)).cell? ⟨w2.heap.size, 1, none⟩ = some (.string ⟨rt.toArray⟩) := by simp
          have hc2 : (w2.alloc (.cells #[.int .i64 rk, .string ⟨rt.toArray⟩, .int .i64 0, .int .i64 rn] 90)).cell? ⟨w2.heap.size, 2, none⟩ = some (.int .i64 0) := by simp
          have hc3 : (w2.alloc (.cells #[.int .i64 rk, .string ⟨rt.toArray⟩, .int .i64 0, .int .i64 rn] 90)).cell? ⟨w2.heap.size, 3, none⟩ = some (.int .i64 rn) := by simp
          have hf2 : (w2.alloc (.cells #[.int .i64 rk, .string ⟨rt.toArray⟩, .int .i64 0, .int .i64 rn] 90)).frozen? ⟨w2.heap.size, 2, none⟩ = false := by simp
          have hw3 : w2.heap.size < (w2.alloc (.cells #[.int .i64 rk, .string ⟨rt.toArray⟩, .int .i64 0, .int .i64 rn] 90)).heap.size := by simp
          have HW3 := hide (And.intro hb3 (And.intro hc0 (And.intro hc1 (And.intro hc2 (And.intro hc3 (And.intro hf2 hw3))))))
          clear hb3 hc0 hc1 hc2 hc3 hf2 hw3 hb12 hpos hlen HC hncl hncl2
          subst hc
          unfold tokA
          go_wp2_with fail
          refine (unhide HC2 _ (unhide HT3)).mono ?_
          rintro ev w4 ⟨rfl, hb4⟩
          obtain ⟨hb3, hc0, hc1, hc2, hc3, hf2, hw3⟩ := unhide HW3
          have k0 := (hb4.cell (p := ⟨w2.heap.size, 0, none⟩) hw3).trans hc0
          have k1 := (hb4.cell (p := ⟨w2.heap.size, 1, none⟩) hw3).trans hc1
          have k2 := (hb4.cell (p := ⟨w2.heap.size, 2, none⟩) hw3).trans hc2
          have k3 := (hb4.cell (p := ⟨w2.heap.size, 3, none⟩) hw3).trans hc3
          have z2 := (hb4.frozen (p := ⟨w2.heap.size, 2, none⟩) hw3).trans hf2
          have k1' : (w4.setCell ⟨w2.heap.size, 2, none⟩ (.int .i64 a)).cell? ⟨w2.heap.size, 1, none⟩ = some (.string ⟨rt.toArray⟩) := by simp [go_sem, k1]
          have HW5 := hide (And.intro ((bthen hb3 hb4).setCell (p := ⟨w2.heap.size, 2, none⟩) hs5 (.int .i64 a)) (And.intro k1' (show w2.heap.size.succ ≤ (w4.setCell ⟨w2.heap.size, 2, none⟩ (.int .i64 a)).heap.size from Nat.le_trans hw3 (by have := hb4.size; simpa using this))))
          clear hb3 hc0 hc1 hc2 hc3 hf2 hw3 hb4 k1' HW3 HT3 HC2
          have hown5 := (unhide HO).below (unhide HW5).1
          have hne : some w2.heap.size ≠ (Value.slice au done.length cu).ownBlock := fun h => absurd ((unhide HO).lt _ h.symm).2 (by omega)
          obtain ⟨v9, w9, hr9, ho9, hg9⟩ := append_tok hown5 ⟨rk, rt, a, rn⟩ (Nat.le_trans (unhide HB).size (unhide HW5).1.size) (by omega)
          have hB5 : Below w.heap.size w (w4.setCell ⟨w2.heap.size, 2, none⟩ (.int .i64 a)) := bthen (unhide HB) (unhide HW5).1
          have y9 : Below w.heap.size w w9 := ((hB5.alloc hB5.size _).grown hg9 (Nat.le_trans hB5.size (by simp)) (fun j hj => (World.ownsRow.lt hown5 j hj).1))
          have c9 : w9.cell? ⟨w2.heap.size, 1, none⟩ = some (.string ⟨rt.toArray⟩) := hg9.cell (by rw [((Below.refl w2.heap.size.succ (w4.setCell ⟨w2.heap.size, 2, none⟩ (.int .i64 a))).alloc (unhide HW5).2.2 _).cell (p := ⟨w2.heap.size, 1, none⟩) (Nat.lt_succ_self _)]; exact (unhide HW5).2.1) hne
          have H9 := hide (And.intro ho9 y9)
          rw [show (w4.setCell ⟨w2.heap.size, 2, none⟩ (.int .i64 a)).heap.size = w4.heap.size by simp] at hr9
          clear hown5 hne ho9 hg9 hB5 y9
          go_wp2_with (at_builtin; refine wpList_append_runD rfl _ _ rfl rfl _ _ rfl rfl v9 w9 hr9 ?_)
          go_roundw
          case rel => exact ⟨a + rt.length, done ++ [⟨rk, rt, a, rn⟩], (unhide HK).2.2, by first | rfl | go_num, by rw [List.length_append, List.length_singleton]; omega, hide (unhide HK).1, hide (unhide H9).1, hide (unhide H9).2⟩
          case measure => simp [intOf]; omega
        · have q2 : ((a : Int) == e) = false := by rw [beq_eq_false_iff_ne]; omega
          have HW5 := hide (And.intro (bthen hb12 (alloc_below w2 (.cells #[.int .i64 rk, .string ⟨rt.toArray⟩, .int .i64 a, .int .i64 rn] 90))) (And.intro (show (w2.alloc (.cells #[.int .i64 rk, .string ⟨rt.toArray⟩, .int .i64 a, .int .i64 rn] 90)).cell? ⟨w2.heap.size, 1, none⟩ = some (.string ⟨rt.toArray⟩) by simp) (show w2.heap.size.succ ≤ (w2.alloc (.cells #[.int .i64 rk, .string ⟨rt.toArray⟩, .int .i64 a, .int .i64 rn] 90)).heap.size by simp)))
          clear hb12 hpos hlen hncl
          unfold tokA
          have hown5 := (unhide HO).below (unhide HW5).1
          have hne : some w2.heap.size ≠ (Value.slice au done.length cu).ownBlock := fun h => absurd ((unhide HO).lt _ h.symm).2 (by omega)
          obtain ⟨v9, w9, hr9, ho9, hg9⟩ := append_tok hown5 ⟨rk, rt, a, rn⟩ (Nat.le_trans (unhide HB).size (unhide HW5).1.size) (by omega)
          have hB5 : Below w.heap.size w (w2.alloc (.cells #[.int .i64 rk, .string ⟨rt.toArray⟩, .int .i64 a, .int .i64 rn] 90)) := bthen (unhide HB) (unhide HW5).1
          have y9 : Below w.heap.size w w9 := ((hB5.alloc hB5.size _).grown hg9 (Nat.le_trans hB5.size (by simp)) (fun j hj => (World.ownsRow.lt hown5 j hj).1))
          have c9 : w9.cell? ⟨w2.heap.size, 1, none⟩ = some (.string ⟨rt.toArray⟩) := hg9.cell (by rw [((Below.refl w2.heap.size.succ (w2.alloc (.cells #[.int .i64 rk, .string ⟨rt.toArray⟩, .int .i64 a, .int .i64 rn] 90))).alloc (unhide HW5).2.2 _).cell (p := ⟨w2.heap.size, 1, none⟩) (Nat.lt_succ_self _)]; exact (unhide HW5).2.1) hne
          have H9 := hide (And.intro ho9 y9)
          rw [show (w2.alloc (.cells #[.int .i64 rk, .string ⟨rt.toArray⟩, .int .i64 a, .int .i64 rn] 90)).heap.size = w2.heap.size + 1 by simp] at hr9
          clear hown5 hne ho9 hg9 hB5 y9
          go_wp2_with (at_builtin; refine wpList_append_runD rfl _ _ rfl rfl _ _ rfl rfl v9 w9 hr9 ?_)
          go_roundw
          case rel => exact ⟨a + rt.length, done ++ [⟨rk, rt, a, rn⟩], (unhide HK).2.2, by first | rfl | go_num, by rw [List.length_append, List.length_singleton]; omega, hide (unhide HK).1, hide (unhide H9).1, hide (unhide H9).2⟩
          case measure => simp [intOf]; omega
      · rw [f1]
        clear HRR f1 HF
        have HRR := hide (And.intro hr1 (And.intro hr2 hr3))
        have HE := hide he0
        clear hr1 hr2 hr3
        unfold tokA errV at *
        rw [if_neg he0]
        clear he0
        have HB3 := hide (bthen (unhide HB) (bthen (unhide HB1) (unhide HB2)))
        go_wp2
        go_ret2
        rw [(unhide HRR).1, (unhide HRR).2.1]
        exact ⟨_, _, err, rfl, OwnT.nil _ _ _, .inr ⟨unhide HE, _, Nat.le_trans (unhide HB3).size (by simp), rfl, by simp, by simp, by simp⟩, (unhide HRR).2.2, bthen (bthen (unhide HB3) (alloc_below _ _)) (alloc_below _ _)⟩
end Go.Proofs.YtepnafnljfjeoaaGreatDoor.Line
