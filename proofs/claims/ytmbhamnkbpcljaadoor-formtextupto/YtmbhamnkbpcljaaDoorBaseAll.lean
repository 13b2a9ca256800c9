/- Small helpers of every walk: what is handed back, facts kept from the walk, strings as lists of bytes, worlds behind calls. No function of the program is named.
   Lines in memory: a slice of strings that a call made (Own), one that is only read (Row), a Fault in memory (Says), the reference's Wrong (Told); what keeps them.
   The contract of the reference's At: the told Wrong in new memory.
   The one variable that errors.As reads. -/
import Derived.Test.YtmbhamnkbpcljaaDoorProg
import Derived.WalkKit
import Derived.ProofKit
import Derived.OpenShut
import Derived.Lib.Strings
import Derived.Deep.Draws
namespace Go.Proofs.YtmbhamnkbpcljaaDoor.Line
open Go.ChangeShapes Go.WideShapes Go.ChangeAt Go.RowKit
set_option linter.unusedVariables false

theorem ret_int {k : IntKind} {a b : Int} (h : a = b) : Ending.returned (.int k a) = .returned (.int k b) := by rw [h]
theorem ret_val {a b : Value} (h : a = b) : Ending.returned a = .returned b := by rw [h]
theorem ret_bool {a b : Bool} (h : a = b) : Ending.returned (.bool a) = .returned (.bool b) := by rw [h]
theorem ret_str {a b : List UInt8} (h : a = b) : Ending.returned (.string ⟨a.toArray⟩) = .returned (.string ⟨b.toArray⟩) := by rw [h]

theorem mk_eq {a b : List UInt8} (h : a = b) : (⟨a.toArray⟩ : ByteArray) = ⟨b.toArray⟩ := by rw [h]
theorem hide {p : Prop} (h : p) : Hid p := h
theorem unhide {p : Prop} (h : Hid p) : p := h
theorem ext (l : List UInt8) (a b : Nat) : (⟨l.toArray⟩ : ByteArray).extract a b = ⟨((l.drop a).take (b - a)).toArray⟩ := Lib.extract_eq _ a b
theorem ext_end (l : List UInt8) (a : Nat) : (⟨l.toArray⟩ : ByteArray).extract a l.length = ⟨(l.drop a).toArray⟩ := by
  rw [ext, List.take_of_length_le (by simp)]
theorem ext_to (l : List UInt8) (a b : Nat) (h : l.length ≤ b) : (⟨l.toArray⟩ : ByteArray).extract a b = ⟨(l.drop a).toArray⟩ := by
  rw [ext, List.take_of_length_le (by simp; omega)]
theorem ext_front (l : List UInt8) (b : Nat) : (⟨l.toArray⟩ : ByteArray).extract 0 b = ⟨(l.take b).toArray⟩ := by
  rw [ext]; simp
theorem byte_is (l : List UInt8) (k : Nat) (hk : k < l.length) (hs : k < (⟨l.toArray⟩ : ByteArray).size) (c : UInt8) (h : l[k] = c) : (((⟨l.toArray⟩ : ByteArray)[k]'hs).toNat : Int) = (c.toNat : Int) := by
  have : ((⟨l.toArray⟩ : ByteArray)[k]'hs) = c := h
  rw [this]
theorem byte_not (l : List UInt8) (k : Nat) (hk : k < l.length) (hs : k < (⟨l.toArray⟩ : ByteArray).size) (c : UInt8) (h : l[k] ≠ c) : ((((⟨l.toArray⟩ : ByteArray)[k]'hs).toNat : Int) == (c.toNat : Int)) = false := by
  rw [beq_eq_false_iff_ne]
  intro h2
  exact h (UInt8.toNat.inj (by have : (l[k]).toNat = ((⟨l.toArray⟩ : ByteArray)[k]'hs).toNat := rfl; omega))

theorem cat2 (a b : List UInt8) : (⟨a.toArray⟩ : ByteArray) ++ ⟨b.toArray⟩ = ⟨(a ++ b).toArray⟩ := by
  apply ByteArray.ext
  simp
theorem cat3 {a b c l : List UInt8} (h : a ++ b ++ c = l) : (((⟨a.toArray⟩ : ByteArray) ++ ⟨b.toArray⟩ ++ ⟨c.toArray⟩).toList == l) = true := by
  rw [cat2, cat2, h, Lib.toList_data]
  simp

theorem cell_lt {w : World} {b o : Nat} {v : Value} (h : w.cell? ⟨b, o, none⟩ = some v) : b < w.heap.size := by
  rcases Nat.lt_or_ge b w.heap.size with h1 | h1
  · exact h1
  · simp [World.cell?, Array.getElem?_eq_none h1] at h

theorem below_drewN {B : Nat} {a w : World} (h : Below B a w) (n : Nat) : Below B a (w.drewN n) := h.trans ⟨rfl, rfl, rfl, Nat.le_refl _, fun _ _ => rfl⟩
/-- a string's bytes, for a measure -/
def strLen : Value → Nat
  | .string b => b.size
  | _ => 0
theorem bthen {w w1 w2 : World} (h : Below w.heap.size w w1) (k : Below w1.heap.size w1 w2) : Below w.heap.size w w2 := h.trans (k.mono h.size)

theorem alloc_below (w : World) (o : Obj) : Below w.heap.size w (w.alloc o) := (Below.refl _ _).alloc (Nat.le_refl _) o

end Go.Proofs.YtmbhamnkbpcljaaDoor.Line

namespace Go.Proofs.YtmbhamnkbpcljaaDoor.Line
open Go.ChangeShapes Go.WideShapes Go.ChangeAt Go.RowKit
set_option linter.unusedVariables false

theorem info9 : (Tryd.prog.info? 9).map (fun i => (i.zero, i.size, i.bytes)) = some (some (.string ⟨#[]⟩), 1, 16) := by kernel_rfl

def strs (ls : List (List UInt8)) : List Value := ls.map fun l => .string ⟨l.toArray⟩
def Own (base : Nat) (w : World) (v : Value) (ls : List (List UInt8)) : Prop := w.ownsRow base 9 1 v ls.length (strs ls)
def Row (w : World) (v : Value) (ls : List (List UInt8)) : Prop :=
  (∃ a cap, v = .slice a 0 cap ∧ ls = []) ∨
  (∃ b off cap, v = .slice (some ⟨b, off, none⟩) ls.length cap ∧ ls.length ≤ cap ∧ ∀ i (h : i < ls.length), w.cell? ⟨b, off + i, none⟩ = some (.string ⟨(ls[i]).toArray⟩))

theorem Own.nil (base : Nat) (w : World) : Own base w (.slice none 0 0) [] := World.ownsRow_nil _ _ _ _
theorem Own.push {base : Nat} {w1 : World} {v' : Value} {ls : List (List UInt8)} {l : List UInt8} (h : w1.ownsRow base 9 1 v' (ls.length + 1) (strs ls ++ [.string ⟨l.toArray⟩])) : Own base w1 v' (ls ++ [l]) := by
  unfold Own; unfold strs at *; simpa using h
theorem Own.row {base : Nat} {w : World} {v : Value} {ls : List (List UInt8)} (h : Own base w v ls) : Row w v ls := by
  obtain ⟨h1, h2⟩ := h
  rcases h2 with ⟨rfl, h2⟩ | ⟨g, cap, cur, rfl, hg, hh, hc, hm, hs, ht⟩
  · exact .inl ⟨none, 0, rfl, by simpa using h2⟩
  · refine .inr ⟨g, 0, cap, rfl, hc, fun i hi => ?_⟩
    have h3 : (strs ls)[i]? = some (.string ⟨(ls[i]).toArray⟩) := by simp [strs, hi]
    have := World.ownsRow.cells (w := w) (base := base) (e := 9) (size := 1) (v := .slice (some ⟨g, 0, none⟩) ls.length cap) (n := ls.length) (xs := strs ls) ⟨h1, .inr ⟨g, cap, cur, rfl, hg, hh, hc, hm, hs, ht⟩⟩ rfl i _ h3
    rw [show (⟨g, 0 + i, none⟩ : Addr) = (⟨g, 0, none⟩ : Addr).add i from by
      unfold Addr.add
      by_cases h0 : i = 0
      · simp [h0]
      · simp [h0]]
    exact this
theorem Own.shape {base : Nat} {w : World} {v : Value} {ls : List (List UInt8)} (h : Own base w v ls) : ∃ a cap, v = .slice a ls.length cap := by
  obtain ⟨h1, h2⟩ := h
  rcases h2 with ⟨rfl, h2⟩ | ⟨g, cap, cur, rfl, _⟩
  · exact ⟨none, 0, by rw [h2]⟩
  · exact ⟨_, cap, rfl⟩
theorem Own.below {base : Nat} {w w' : World} {v : Value} {ls : List (List UInt8)} (h : Own base w v ls) (hb : Below w.heap.size w w') : Own base w' v ls := by
  obtain ⟨h1, h2⟩ := h
  refine ⟨h1, ?_⟩
  rcases h2 with h2 | ⟨g, cap, cur, hv, hg, hh, r⟩
  · exact .inl h2
  · refine .inr ⟨g, cap, cur, hv, hg, ?_, r⟩
    rw [hb.block g (by
      rcases Nat.lt_or_ge g w.heap.size with h | h
      · exact h
      · rw [Array.getElem?_eq_none h] at hh; cases hh)]
    exact hh
theorem Row.below {w w' : World} {v : Value} {ls : List (List UInt8)} (h : Row w v ls) (hb : Below w.heap.size w w') : Row w' v ls := by
  rcases h with h | ⟨b, off, cap, rfl, hc, h⟩
  · exact .inl h
  · exact .inr ⟨b, off, cap, rfl, hc, fun i hi => by rw [hb.cell (p := ⟨b, off + i, none⟩) (cell_lt (h i hi))]; exact h i hi⟩
theorem Row.drewN {w : World} {v : Value} {ls : List (List UInt8)} (h : Row w v ls) (n : Nat) : Row (w.drewN n) v ls := h.below (below_drewN (Below.refl _ _) n)

/-- the error that an interface value holds: none, or a Fault at a block from B on -/
def Says (B : Nat) (w : World) (f : Value) (word : List UInt8) (at_ err : Nat) : Prop :=
  (err = 0 ∧ f = .nilIface) ∨
  (err ≠ 0 ∧ ∃ b, B ≤ b ∧ f = .iface 80 (.pointer (some ⟨b, 0, none⟩)) ∧ w.cell? ⟨b, 0, none⟩ = some (.string ⟨word.toArray⟩) ∧ w.cell? ⟨b, 1, none⟩ = some (.int .i64 at_) ∧ w.cell? ⟨b, 2, none⟩ = some (.iface 72 (.int .i64 err)))
theorem Says.below {B : Nat} {w w' : World} {f : Value} {word : List UInt8} {at_ err : Nat} (h : Says B w f word at_ err) (hb : Below w.heap.size w w') : Says B w' f word at_ err := by
  rcases h with h | ⟨h0, b, h1, h2, h3, h4, h5⟩
  · exact .inl h
  · have hl := cell_lt h3
    exact .inr ⟨h0, b, h1, h2, by rw [hb.cell (p := ⟨b, 0, none⟩) hl]; exact h3, by rw [hb.cell (p := ⟨b, 1, none⟩) hl]; exact h4, by rw [hb.cell (p := ⟨b, 2, none⟩) hl]; exact h5⟩
/-- the reference's Wrong, as a value -/
def Told (B : Nat) (w : World) (g : Value) (word : List UInt8) (at_ err : Nat) : Prop :=
  (err = 0 ∧ g = .agg #[.slice none 0 0, .int .i64 0]) ∨
  (err ≠ 0 ∧ ∃ b, B ≤ b ∧ g = .agg #[.slice (some ⟨b, 0, none⟩) 1 1, .int .i64 err] ∧ w.cell? ⟨b, 0, none⟩ = some (.string ⟨word.toArray⟩) ∧ w.cell? ⟨b, 1, none⟩ = some (.int .i64 at_))
theorem Told.below {B : Nat} {w w' : World} {g : Value} {word : List UInt8} {at_ err : Nat} (h : Told B w g word at_ err) (hb : Below w.heap.size w w') : Told B w' g word at_ err := by
  rcases h with h | ⟨h0, b, h1, h2, h3, h4⟩
  · exact .inl h
  · have hl := cell_lt h3
    exact .inr ⟨h0, b, h1, h2, by rw [hb.cell (p := ⟨b, 0, none⟩) hl]; exact h3, by rw [hb.cell (p := ⟨b, 1, none⟩) hl]; exact h4⟩
theorem Told.mono {B B' : Nat} {w : World} {g : Value} {word : List UInt8} {at_ err : Nat} (h : Told B w g word at_ err) (hB : B' ≤ B) : Told B' w g word at_ err := by
  rcases h with h | ⟨h0, b, h1, h2, h3, h4⟩
  · exact .inl h
  · exact .inr ⟨h0, b, Nat.le_trans hB h1, h2, h3, h4⟩
theorem Told.setCell {B : Nat} {w : World} {g : Value} {word : List UInt8} {at_ err : Nat} (h : Told B w g word at_ err) (a : Addr) (ha : a.block < B) (u : Value) : Told B (w.setCell a u) g word at_ err := by
  rcases h with h | ⟨h0, b, h1, h2, h3, h4⟩
  · exact .inl h
  · have hne : ∀ o, (⟨b, o, none⟩ : Addr).block ≠ a.block := fun o => by show b ≠ a.block; omega
    exact .inr ⟨h0, b, h1, h2, by rw [World.cell?_of_block (Below.heap_setCell _ _ _ _ (hne 0))]; exact h3, by rw [World.cell?_of_block (Below.heap_setCell _ _ _ _ (hne 1))]; exact h4⟩

/-- behind an append that makes a line more: old memory is as it was -/
theorem push_below {B : Nat} {w wr w1 : World} {v : Value} {ls : List (List UInt8)} {o : Obj} (hB : B ≤ wr.heap.size) (hown : Own B wr v ls) (hnx : Below B w wr) (hgrow : (wr.alloc o).grownBy w1 v.ownBlock) : Below B w w1 :=
  (hnx.alloc hB o).grown hgrow (by simp; omega) (fun j hj => (World.ownsRow.lt hown j hj).1)
end Go.Proofs.YtmbhamnkbpcljaaDoor.Line

namespace Go.Proofs.YtmbhamnkbpcljaaDoor.Line
open Go.ChangeShapes Go.WideShapes Go.ChangeAt Go.RowKit
set_option linter.unusedVariables false

set_option maxHeartbeats 1000000 in
theorem at_any (word : List UInt8) (k err : Nat) (w : World) : Calls Tryd.prog 29 #[.string ⟨word.toArray⟩, .int .i64 k, .int .i64 err] w fun e w' => ∃ b, e = .returned (.agg #[.slice (some ⟨b, 0, none⟩) 1 1, .int .i64 err]) ∧ w.heap.size ≤ b ∧ w'.cell? ⟨b, 0, none⟩ = some (.string ⟨word.toArray⟩) ∧ w'.cell? ⟨b, 1, none⟩ = some (.int .i64 k) ∧ Below w.heap.size w w' := by
  go_enter Tryd.func29, Tryd.ntmps29
  go_wp2
  exact bodyPost_ret (v := .agg #[.slice (some ⟨w.heap.size + 1, 0, none⟩) 1 1, .int .i64 err]) (by simp [results, Tryd.results29, go_sem]) rfl ⟨_, rfl, by omega, by simp, by simp, ((Below.refl _ _).alloc (Nat.le_refl _) _).alloc (by simp) _⟩

end Go.Proofs.YtmbhamnkbpcljaaDoor.Line

namespace Go.Proofs.YtmbhamnkbpcljaaDoor.Line
open Go.ChangeShapes Go.WideShapes Go.ChangeAt Go.RowKit
set_option linter.unusedVariables false

/-- what the row s list gives: the one variable that errors.As reads -/
def Glob (w : World) : Prop := w.cell? ⟨0, 0, none⟩ = some (.iface 120 (.agg #[.pointer (some ⟨4, 28, none⟩)]))
theorem Glob.below {w w' : World} (h : Glob w) (hb : Below w.heap.size w w') : Glob w' := (hb.cell (p := ⟨0, 0, none⟩) (cell_lt h)).trans h
end Go.Proofs.YtmbhamnkbpcljaaDoor.Line
