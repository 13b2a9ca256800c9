/- The contracts of the project's line.Part (with strings.IndexByte, strings.TrimSuffix) and of the reference's Parts; out of stage 2's texts. -/
import Derived.Test.YtmdifoejacogpaaDoorBase
import Derived.Test.YtmdifoejacogpaaDoorPlain
namespace Go.Proofs.YtmdifoejacogpaaDoor.Line
open Go.ChangeShapes Go.WideShapes Go.ChangeAt Go.RowKit Plain
set_option linter.unusedVariables false

set_option maxHeartbeats 1000000 in
theorem indexByte_any (s : ByteArray) (c : Int) (w : World) : Calls Tryd.prog 47 #[.string s, .int .u8 c] w fun e w' => e = .returned (.int .i64 (Lib.indexByte s.data.toList c.toNat.toUInt8)) ∧ w' = w := by
  have h49 := @run_callFunc_extern Tryd.prog 67 _ Extern.BytealgIndexByte.indexByte Tryd.func67 (by kernel_rfl) (by kernel_rfl) (by kernel_rfl) (by kernel_rfl)
  have hr := fun (w : World) => @Lib.run_indexByteString Tryd.prog s c w
  go_enter Tryd.func47, Tryd.ntmps47
  go_wp2
  go_ret
  exact ⟨rfl, rfl⟩

theorem trimEnd (s : List UInt8) : Lib.trimSuffix s [10] = core s := by
  unfold Lib.trimSuffix core Lib.hasSuffix
  by_cases h : s.getLast? = some 10
  · rw [if_pos h]
    obtain ⟨r, rfl⟩ := List.getLast?_eq_some_iff.1 h
    rw [if_pos (by simp)]
    simp
  · rw [if_neg h, if_neg]
    intro hs
    obtain ⟨r, hr⟩ := List.isSuffixOf_iff_suffix.1 hs
    apply h
    rw [← hr]
    simp

set_option maxHeartbeats 1000000 in
theorem trimSuffix_any (s p : ByteArray) (w : World) (hs : s.size ≤ 9223372036854775807) :
    Calls Tryd.prog 46 #[.string s, .string p] w fun e w' => e = .returned (.string ⟨(Lib.trimSuffix s.data.toList p.data.toList).toArray⟩) ∧ w' = w := by
  have hlo : p.size ≤ s.size → ((s.size : Int) - (p.size : Int) + 9223372036854775808) % 18446744073709551616 - 9223372036854775808 = ((s.size - p.size : Nat) : Int) := fun _ => by omega
  go_enter Tryd.func46, Tryd.ntmps46
  go_wp2
  · have h1 : p.size ≤ s.size := by assumption
    have h2 : ((s.extract (s.size - p.size) s.size).toList == p.toList) = true := by assumption
    go_ret
    refine ⟨?_, rfl⟩
    rw [Lib.trimSuffix_hit s p h1 h2]
    rfl
  · have h2 : ((s.extract (s.size - p.size) s.size).toList == p.toList) = false := by assumption
    go_ret
    refine ⟨?_, rfl⟩
    rw [Lib.trimSuffix_miss s p (by rw [h2]; simp)]
    rfl
  · have h1 : ¬ p.size ≤ s.size := by assumption
    go_ret
    refine ⟨?_, rfl⟩
    rw [Lib.trimSuffix_miss s p (by simp [h1])]
    rfl

/-- three strings handed back -/
def three (a b c : List UInt8) : Ending := .returned (.tuple #[.string ⟨a.toArray⟩, .string ⟨b.toArray⟩, .string ⟨c.toArray⟩])
theorem three_eq {a b c a' b' c' : List UInt8} (h1 : a = a') (h2 : b = b') (h3 : c = c') : three a b c = three a' b' c' := by rw [h1, h2, h3]
theorem three_of {x y z : ByteArray} {a b c : List UInt8} (h1 : x = ⟨a.toArray⟩) (h2 : y = ⟨b.toArray⟩) (h3 : z = ⟨c.toArray⟩) : Ending.returned (.tuple #[.string x, .string y, .string z]) = three a b c := by rw [h1, h2, h3]; rfl
theorem core_le (s : List UInt8) : (core s).length ≤ s.length := by
  unfold core; split <;> simp

set_option maxHeartbeats 1000000 in
theorem part_any (l : List UInt8) (w : World) (hl : l.length ≤ 65536) : Calls Tryd.prog 28 #[.string ⟨l.toArray⟩] w fun e w' => e = three (bodyOf l) (noteOf l) (endOf l) ∧ ∃ n, w' = w.drewN n := by
  have hT : Lib.trimSuffix (⟨l.toArray⟩ : ByteArray).data.toList (⟨#[10]⟩ : ByteArray).data.toList = core l := trimEnd l
  have hcl := core_le l
  obtain ⟨k, hk⟩ : ∃ k, Lib.indexByte (core l) 33 = k := ⟨_, rfl⟩
  have hw := idx_while (core l) 33
  rw [hk] at hw
  have hg := Lib.indexByte_ge (core l) 33
  rw [hk] at hg
  have hc : ∀ c : List UInt8, c = core l → (Lib.indexByte (⟨c.toArray⟩ : ByteArray).data.toList (33 : Int).toNat.toUInt8) = k := fun c h => by subst h; exact hk
  clear hk
  have HE : Hid (l.drop (core l).length = endOf l) := by
    show _ = _
    have := core_end l
    conv => lhs; rhs; rw [← this]
    simp
  have HW : Hid ((0 ≤ k → (((core l).takeWhile (fun x => decide (x ≠ 33))).length : Int) = k ∧ k < (core l).length) ∧ (¬ 0 ≤ k → (core l).takeWhile (fun x => decide (x ≠ 33)) = core l ∧ (core l).dropWhile (fun x => decide (x ≠ 33)) = [])) := hw
  clear hw
  have HB : Hid (bodyOf l = (core l).takeWhile (fun x => decide (x ≠ 33))) := rfl
  have HN : Hid (noteOf l = (core l).dropWhile (fun x => decide (x ≠ 33))) := rfl
  generalize hcc : core l = c at *
  have HC := hc c rfl
  clear hc hcc
  by_cases h0 : 0 ≤ k
  · obtain ⟨n, rfl⟩ := Int.eq_ofNat_of_zero_le h0
    have hn : n < c.length := by have := (HW.out.1 h0).2; omega
    go_enter Tryd.func28, Tryd.ntmps28
    go_wp2_with (first | (go_at_call 46; refine (trimSuffix_any _ _ _ (by show l.length ≤ _; omega)).mono ?_; rintro e w' ⟨rfl, rfl⟩; rw [hT]) | (go_at_call 47; refine (indexByte_any _ _ _).mono ?_; rintro e w' ⟨rfl, rfl⟩; rw [HC]))
    have e1 : c.take n = bodyOf l ∧ c.drop n = noteOf l := by
      have h1 := (HW.out.1 h0).1
      have h2 := take_while c (fun x => decide (x ≠ 33))
      have h3 : (c.takeWhile (fun x => decide (x ≠ 33))).length = n := by omega
      rw [h3] at h2
      exact ⟨h2.1.trans HB.out.symm, h2.2.trans HN.out.symm⟩
    go_region
    all_goals go_wp2
    all_goals go_ret3
    all_goals
      refine ⟨?_, 1, rfl⟩
      exact three_of ((ext_front _ _).trans (by rw [e1.1])) ((ext_end _ _).trans (by rw [e1.2])) ((ext_end _ _).trans (by rw [HE.out]))
  · go_enter Tryd.func28, Tryd.ntmps28
    go_wp2_with (first | (go_at_call 46; refine (trimSuffix_any _ _ _ (by show l.length ≤ _; omega)).mono ?_; rintro e w' ⟨rfl, rfl⟩; rw [hT]) | (go_at_call 47; refine (indexByte_any _ _ _).mono ?_; rintro e w' ⟨rfl, rfl⟩; rw [HC]))
    go_ret3
    have e1 := HW.out.2 (by omega)
    refine ⟨?_, 0, rfl⟩
    exact three_of (by rw [HB.out, e1.1]) (by rw [HN.out, e1.2]) ((ext_end _ _).trans (by rw [HE.out]))

theorem parts_at (r : List UInt8) (k : Nat) (hk : k ≤ r.length) (h1 : ∀ j (hj : j < k), r[j]'(by omega) ≠ 33) (h2 : ∀ (h : k < r.length), r[k] = 33) :
    r.takeWhile (fun c => decide (c ≠ 33)) = r.take k ∧ r.dropWhile (fun c => decide (c ≠ 33)) = r.drop k := by
  have h := while_at r (fun c => decide (c ≠ 33)) k hk (fun j hj => by simpa using h1 j hj) (fun hh => by simpa using h2 hh)
  have h3 := take_while r (fun c => decide (c ≠ 33))
  rw [h] at h3
  exact ⟨h3.1.symm, h3.2.symm⟩

set_option maxHeartbeats 1000000 in
theorem refParts_end (l r : List UInt8) (w : World) (hl : l.length ≤ 65536) (hr : l = r ++ [10]) : Calls Tryd.prog 31 #[.string ⟨l.toArray⟩] w fun e w' => e = three (bodyOf l) (noteOf l) (endOf l) ∧ ∃ n, w' = w.drewN n := by
  have hlen : l.length = r.length + 1 := by rw [hr]; simp
  have hpos : 0 < l.length := by omega
  have hx : (⟨l.toArray⟩ : ByteArray).extract 0 r.length = ⟨r.toArray⟩ := by rw [ext_front, hr]; simp
  have hsz : r.length < (⟨l.toArray⟩ : ByteArray).size := by show r.length < l.length; omega
  have hlast : ((⟨l.toArray⟩ : ByteArray)[r.length]'hsz) = 10 := by
    have h1 : l[r.length]'(by omega) = 10 := by simp [hr]
    exact h1
  have hl2 : r.length ≤ 65535 := by omega
  have hg : l.getLast? = some 10 := by rw [hr]; simp
  have hcore : core l = r := by unfold core; rw [if_pos hg, hr]; simp
  have HB : Hid (r.takeWhile (fun c => decide (c ≠ 33)) = bodyOf l) := by show _ = _; unfold bodyOf; rw [hcore]
  have HN : Hid (r.dropWhile (fun c => decide (c ≠ 33)) = noteOf l) := by show _ = _; unfold noteOf; rw [hcore]
  have HE : Hid ((⟨#[10]⟩ : ByteArray) = ⟨(endOf l).toArray⟩) := by show _ = _; unfold endOf; rw [if_pos hg]
  clear hr hg hcore
  have h10 : (((⟨l.toArray⟩ : ByteArray)[r.length]'hsz).toNat : Int) = 10 := by rw [hlast]; rfl
  clear hlast
  go_enter Tryd.func31, Tryd.ntmps31
  go_wp2
  go_loop [6] (fun i => ∃ k : Nat, k ≤ r.length ∧ i = .int .i64 k ∧ ∀ j (hj : j < r.length), j < k → r[j] ≠ 33) (fun i => r.length - (intOf i).toNat)
  case atStart => exact ⟨0, Nat.zero_le _, rfl, fun j hj h => by omega⟩
  case round =>
    obtain ⟨k, hk, rfl, hok⟩ := hrel
    have HOK : Hid (∀ j (hj : j < r.length), j < k → r[j] ≠ 33) := hok
    clear hok
    by_cases hlt : k < r.length
    · have hs2 : k < (⟨r.toArray⟩ : ByteArray).size := hlt
      by_cases hb : r[k] = 33
      · have hb' : (((⟨r.toArray⟩ : ByteArray)[k]'hs2).toNat : Int) = 33 := by
          have : ((⟨r.toArray⟩ : ByteArray)[k]'hs2) = 33 := hb
          rw [this]; rfl
        have HP := parts_at r k (Nat.le_of_lt hlt) (fun j hj => HOK.out j (by omega) hj) (fun _ => hb)
        have HP' := hide HP
        clear hb HP
        go_wp2
        go_region
        all_goals go_wp2
        all_goals go_ret3
        all_goals
          refine ⟨?_, 1, rfl⟩
          exact three_of ((ext_front _ _).trans (mk_eq ((unhide HP').1.symm.trans HB.out))) ((ext_to _ _ _ (by omega)).trans (mk_eq ((unhide HP').2.symm.trans HN.out))) HE.out
      · have hb' : ((((⟨r.toArray⟩ : ByteArray)[k]'hs2).toNat : Int) == 33) = false := by
          have h1 : ((⟨r.toArray⟩ : ByteArray)[k]'hs2) ≠ 33 := hb
          rw [beq_eq_false_iff_ne]
          intro h2
          exact h1 (UInt8.toNat.inj (by rw [show (33 : UInt8).toNat = 33 from rfl]; omega))
        have HB3 : Hid (r[k] ≠ 33) := hb
        clear hb
        go_wp2
        go_round
        case rel => exact ⟨k + 1, by omega, by go_num, fun j hj hjk => by
            by_cases e : j = k
            · subst e; exact HB3.out
            · exact HOK.out j hj (by omega)⟩
        case measure => simp [intOf]; omega
    · have HP := parts_at r r.length (Nat.le_refl _) (fun j hj => HOK.out j hj (by omega)) (fun h => absurd h (Nat.lt_irrefl _))
      have HP' := hide HP
      clear HP
      go_wp2
      go_ret3
      refine ⟨?_, 0, rfl⟩
      exact three_of (by rw [← HB.out, (unhide HP').1, List.take_length]) (by rw [← HN.out, (unhide HP').2, List.drop_length]) HE.out

set_option maxHeartbeats 1000000 in
theorem refParts_bare (l : List UInt8) (w : World) (hl : l.length ≤ 65536) (hg : l.getLast? ≠ some 10) : Calls Tryd.prog 31 #[.string ⟨l.toArray⟩] w fun e w' => e = three (bodyOf l) (noteOf l) (endOf l) ∧ ∃ n, w' = w.drewN n := by
  have hcore : core l = l := by unfold core; rw [if_neg hg]
  have HB : Hid (l.takeWhile (fun c => decide (c ≠ 33)) = bodyOf l) := by show _ = _; unfold bodyOf; rw [hcore]
  have HN : Hid (l.dropWhile (fun c => decide (c ≠ 33)) = noteOf l) := by show _ = _; unfold noteOf; rw [hcore]
  have HE : Hid ((⟨#[]⟩ : ByteArray) = ⟨(endOf l).toArray⟩) := by show _ = _; unfold endOf; rw [if_neg hg]
  clear hcore
  by_cases h0 : l.length = 0
  · obtain rfl : l = [] := by simpa using h0
    clear hg h0
    go_enter Tryd.func31, Tryd.ntmps31
    go_wp2
    refine wp_loop_rounds 1 ?_
    rw [rounds_succ]
    go_wp2
    go_ret3
    refine ⟨?_, 0, rfl⟩
    exact three_of (by rw [← HB.out]; rfl) (by rw [← HN.out]; rfl) HE.out
  obtain ⟨m, hm⟩ : ∃ m, l.length = m + 1 := ⟨l.length - 1, by omega⟩
  have hsz : m < (⟨l.toArray⟩ : ByteArray).size := by show m < l.length; omega
  have h10 : ((((⟨l.toArray⟩ : ByteArray)[m]'hsz).toNat : Int) == 10) = false := by
    rw [beq_eq_false_iff_ne]
    intro h2
    apply hg
    have h3 : l[m]'(by omega) = 10 := UInt8.toNat.inj (by rw [show (10 : UInt8).toNat = 10 from rfl]; have : (l[m]'(by omega)).toNat = ((⟨l.toArray⟩ : ByteArray)[m]'hsz).toNat := rfl; omega)
    rw [List.getLast?_eq_getElem?, List.getElem?_eq_getElem (by omega)]
    simp only [show l.length - 1 = m by omega, h3]
  clear hg h0
  go_enter Tryd.func31, Tryd.ntmps31
  go_wp2
  go_loop [6] (fun i => ∃ k : Nat, k ≤ l.length ∧ i = .int .i64 k ∧ ∀ j (hj : j < l.length), j < k → l[j] ≠ 33) (fun i => l.length - (intOf i).toNat)
  case atStart => exact ⟨0, Nat.zero_le _, rfl, fun j hj h => by omega⟩
  case round =>
    obtain ⟨k, hk, rfl, hok⟩ := hrel
    have HOK : Hid (∀ j (hj : j < l.length), j < k → l[j] ≠ 33) := hok
    clear hok
    by_cases hlt : k < l.length
    · have hs2 : k < (⟨l.toArray⟩ : ByteArray).size := hlt
      by_cases hb : l[k] = 33
      · have hb' : (((⟨l.toArray⟩ : ByteArray)[k]'hs2).toNat : Int) = 33 := by
          have : ((⟨l.toArray⟩ : ByteArray)[k]'hs2) = 33 := hb
          rw [this]; rfl
        have HP := parts_at l k (Nat.le_of_lt hlt) (fun j hj => HOK.out j (by omega) hj) (fun _ => hb)
        have HP' := hide HP
        clear hb HP
        go_wp2
        go_region
        all_goals go_wp2
        all_goals go_ret3
        all_goals
          refine ⟨?_, 1, rfl⟩
          exact three_of ((ext_front _ _).trans (mk_eq ((unhide HP').1.symm.trans HB.out))) ((ext_to _ _ _ (by omega)).trans (mk_eq ((unhide HP').2.symm.trans HN.out))) HE.out
      · have hb' : ((((⟨l.toArray⟩ : ByteArray)[k]'hs2).toNat : Int) == 33) = false := by
          have h1 : ((⟨l.toArray⟩ : ByteArray)[k]'hs2) ≠ 33 := hb
          rw [beq_eq_false_iff_ne]
          intro h2
          exact h1 (UInt8.toNat.inj (by rw [show (33 : UInt8).toNat = 33 from rfl]; omega))
        have HB3 : Hid (l[k] ≠ 33) := hb
        clear hb
        go_wp2
        go_round
        case rel => exact ⟨k + 1, by omega, by go_num, fun j hj hjk => by
            by_cases e : j = k
            · subst e; exact HB3.out
            · exact HOK.out j hj (by omega)⟩
        case measure => simp [intOf]; omega
    · have HP := parts_at l l.length (Nat.le_refl _) (fun j hj => HOK.out j hj (by omega)) (fun h => absurd h (Nat.lt_irrefl _))
      have HP' := hide HP
      clear HP
      go_wp2
      go_ret3
      refine ⟨?_, 0, rfl⟩
      exact three_of (by rw [← HB.out, (unhide HP').1, List.take_length]) (by rw [← HN.out, (unhide HP').2, List.drop_length]) HE.out

theorem refParts_any (l : List UInt8) (w : World) (hl : l.length ≤ 65536) : Calls Tryd.prog 31 #[.string ⟨l.toArray⟩] w fun e w' => e = three (bodyOf l) (noteOf l) (endOf l) ∧ ∃ n, w' = w.drewN n := by
  by_cases h : l.getLast? = some 10
  · obtain ⟨r, hr⟩ := List.getLast?_eq_some_iff.1 h
    exact refParts_end l r w hl hr
  · exact refParts_bare l w hl h
end Go.Proofs.YtmdifoejacogpaaDoor.Line
