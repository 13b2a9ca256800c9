/- Small helpers of every walk: what is handed back, facts kept from the walk, strings as lists of bytes, worlds behind calls. No function of the program is named. -/
import Derived.Test.YtdpjipphbhomkaaGreatDoorProg
import Derived.WalkKit
import Derived.ProofKit
import Derived.OpenShut
import Derived.Lib.Strings
import Derived.Deep.Draws
namespace Go.Proofs.YtdpjipphbhomkaaGreatDoor.Line
open Go.ChangeShapes Go.WideShapes Go.ChangeAt Go.RowKit
set_option linter.unusedVariables false

theorem ret_int {k : IntKind} {a b : Int} (h : a = b) : Ending.returned (.int k a) = .returned (.int k b) := by rw [h]
theorem ret_val {a b : Value} (h : a = b) : Ending.returned a = .returned b := by rw [h]
theorem ret_bool {a b : Bool} (h : a = b) : Ending.returned (.bool a) = .returned (.bool b) := by rw [h]
theorem ret_str {a b : List UInt8} (h : a = b) : Ending.returned (.string ⟨a.toArray⟩) = .returned (.string ⟨b.toArray⟩) := by rw [h]

theorem mk_eq {a b : List UInt8} (h : a = b) : (⟨a.toArray⟩ : ByteArray) = ⟨b.toArray⟩ := by rw [h]
theorem hide {p : Prop} (h : p) : Hid p := h
theorem unhide {p : Prop} (h : Hid p) : p := h
theorem ext (l : List UInt8) (a b : Nat) : (⟨l.toArray⟩ : ByteArray).extract a b = ⟨((l.drop a).take (b - a)).toArray⟩ := Lib.extract_eq _ a b
theorem ext_end (l : List UInt8) (a : Nat) : (⟨l.toArray⟩ : ByteArray).extract a l.length = ⟨(l.drop a).toArray⟩ := by
  rw [ext, List.take_of_length_le (by simp)]
theorem ext_to (l : List UInt8) (a b : Nat) (h : l.length ≤ b) : (⟨l.toArray⟩ : ByteArray).extract a b = ⟨(l.drop a).toArray⟩ := by
  rw [ext, List.take_of_length_le (by simp; omega)]
theorem ext_front (l : List UInt8) (b : Nat) : (⟨l.toArray⟩ : ByteArray).extract 0 b = ⟨(l.take b).toArray⟩ := by
  rw [ext]; simp
theorem byte_is (l : List UInt8) (k : Nat) (hk : k < l.length) (hs : k < (⟨l.toArray⟩ : ByteArray).size) (c : UInt8) (h : l[k] = c) : (((⟨l.toArray⟩ : ByteArray)[k]'hs).toNat : Int) = (c.toNat : Int) := by
  have : ((⟨l.toArray⟩ : ByteArray)[k]'hs) = c := h
  rw [this]
theorem byte_not (l : List UInt8) (k : Nat) (hk : k < l.length) (hs : k < (⟨l.toArray⟩ : ByteArray).size) (c : UInt8) (h : l[k] ≠ c) : ((((⟨l.toArray⟩ : ByteArray)[k]'hs).toNat : Int) == (c.toNat : Int)) = false := by
  rw [beq_eq_false_iff_ne]
  intro h2
  exact h (UInt8.toNat.inj (by have : (l[k]).toNat = ((⟨l.toArray⟩ : ByteArray)[k]'hs).toNat := rfl; omega))

theorem cat2 (a b : List UInt8) : (⟨a.toArray⟩ : ByteArray) ++ ⟨b.toArray⟩ = ⟨(a ++ b).toArray⟩ := by
  apply ByteArray.ext
  simp
theorem cat3 {a b c l : List UInt8} (h : a ++ b ++ c = l) : (((⟨a.toArray⟩ : ByteArray) ++ ⟨b.toArray⟩ ++ ⟨c.toArray⟩).toList == l) = true := by
  rw [cat2, cat2, h, Lib.toList_data]
  simp

theorem cell_lt {w : World} {b o : Nat} {v : Value} (h : w.cell? ⟨b, o, none⟩ = some v) : b < w.heap.size := by
  rcases Nat.lt_or_ge b w.heap.size with h1 | h1
  · exact h1
  · simp [World.cell?, Array.getElem?_eq_none h1] at h

theorem below_drewN {B : Nat} {a w : World} (h : Below B a w) (n : Nat) : Below B a (w.drewN n) := h.trans ⟨rfl, rfl, rfl, Nat.le_refl _, fun _ _ => rfl⟩
/-- a string's bytes, for a measure -/
def strLen : Value → Nat
  | .string b => b.size
  | _ => 0
theorem bthen {w w1 w2 : World} (h : Below w.heap.size w w1) (k : Below w1.heap.size w1 w2) : Below w.heap.size w w2 := h.trans (k.mono h.size)

theorem alloc_below (w : World) (o : Obj) : Below w.heap.size w (w.alloc o) := (Below.refl _ _).alloc (Nat.le_refl _) o

end Go.Proofs.YtdpjipphbhomkaaGreatDoor.Line
