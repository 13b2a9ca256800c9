/- TokNumbers, walked, over contracts of the project's Line, of known and of Tells. -/
import Derived.Test.YtmdifoejacogpaaDoorTokSpec
import Derived.Test.YtmdifoejacogpaaDoorAtB
import Derived.Test.YtmdifoejacogpaaDoorPlainTokMore
namespace Go.Proofs.YtmdifoejacogpaaDoor.Line
open Go.ChangeShapes Go.WideShapes Go.ChangeAt Go.RowKit
set_option linter.unusedVariables false

theorem noughts_snoc (i : Nat) : (⟨(Words.noughts i).toArray⟩ : ByteArray) ++ ⟨#[48]⟩ = ⟨(Words.noughts (i + 1)).toArray⟩ := by
  rw [show (⟨#[48]⟩ : ByteArray) = ⟨[48].toArray⟩ from rfl, cat2]
  apply mk_eq
  unfold Words.noughts
  rw [List.replicate_succ', List.append_cancel_left_eq]
theorem dec_len (n : Nat) (h : n < 18446744073709551616) : (Words.dec n).length ≤ 20 := by
  unfold Words.dec
  split
  · simp
  · exact Words.digs_len 20 n (by omega)

set_option maxHeartbeats 8000000 in
set_option maxRecDepth 100000 in
theorem tokNumbers_walk (HLINE : LineSpec) (HKNOWN : KnownSpec) (HTELLS : TellsSpec) (N : Nat) (x : Int) (w : World) (hN : N < 18446744073709551616) (x0 : 0 ≤ x) (x1 : x ≤ 255) (hG : Glob w) : Calls Tryd.prog 5 #[.int .u64 N, .int .u8 x] w fun e w' => e = .returned (.bool true) ∧ Below w.heap.size w w' := by
  have HG := hide hG
  have HLN := hide HLINE
  have HKN := hide (HKNOWN w)
  have HTL := hide HTELLS
  clear hG HLINE HKNOWN HTELLS
  obtain ⟨K, hK⟩ : ∃ K : Nat, x % 5 = K := ⟨(x % 5).toNat, by omega⟩
  have hK5 : K < 5 := by omega
  go_enter Tryd.func5, Tryd.ntmps5
  go_wp2_with fail
  refine (unhide HKN).mono ?_
  rintro e w1 ⟨rfl, hb1⟩
  have H1 := hide hb1
  clear hb1
  go_wp2_with fail
  go_loopw [5, 6] (fun s q wr => ∃ i : Nat, i ≤ K ∧ q = .int .i64 i ∧ s = .string ⟨(Words.noughts i).toArray⟩ ∧ wr = w1) (fun _ q _ => K - (intOf q).toNat)
  case atStart => exact ⟨0, Nat.zero_le _, rfl, rfl, rfl⟩
  case round =>
    obtain ⟨i, hi, rfl, rfl, rfl⟩ := hrel
    by_cases hlt : i < K
    · have hcat := noughts_snoc i
      have hml : (Words.noughts i).length ≤ 5 := by unfold Words.noughts; rw [List.length_replicate]; omega
      generalize Words.noughts i = mm at *
      go_wp2
      go_roundw
      case rel => exact ⟨i + 1, by omega, by go_num, rfl, trivial⟩
      case measure => simp [intOf]; omega
    · obtain rfl : i = K := by omega
      clear hlt
      have hml : (Words.noughts i).length ≤ 5 := by unfold Words.noughts; rw [List.length_replicate]; omega
      have HTD := hide (Words.toks_dec i N)
      have HDL := hide (dec_len N hN)
      generalize Words.noughts i = mm at *
      go_wp2_with fail
      go_loopw [7, 8] (fun s q wr => ∃ (m : Nat) (d : List UInt8), m ≤ N ∧ q = .int .u64 m ∧ s = .string ⟨d.toArray⟩ ∧ d.length ≤ 20 ∧ Hid (Words.digs m ++ d = Words.digs N) ∧ Hid (Below w.heap.size w wr)) (fun _ q _ => (intOf q).toNat)
      case atStart => exact ⟨N, [], Nat.le_refl _, rfl, rfl, by simp, hide (by simp), H1⟩
      case round =>
        obtain ⟨m, d, hm, rfl, rfl, hdl, HD, HB⟩ := hrel
        by_cases hm0 : 0 < m
        · obtain ⟨cn, hcn⟩ : ∃ cn : Nat, 48 + m % 10 = cn := ⟨_, rfl⟩
          have hcn2 : 48 + (m : Int) % 10 = cn := by omega
          have hcn3 : cn ≤ 57 := by omega
          obtain ⟨c, hc⟩ : ∃ c : UInt8, UInt8.ofNat cn = c := ⟨_, rfl⟩
          have hcc : c.toNat = cn := by rw [← hc, UInt8.toNat_ofNat']; omega
          have hcv : (convert 42 9 (.slice (some ⟨wr.heap.size, 0, none⟩) 1 1)).run Tryd.prog (wr.alloc (.cells #[.int .u8 (cn : Int)] 5)) = .ok (.string ⟨#[c]⟩) (wr.alloc (.cells #[.int .u8 (cn : Int)] 5)) :=
            run_convert_bytes_back (wr.alloc (.cells #[.int .u8 (cn : Int)] 5)) 42 9 5 ⟨wr.heap.size, 0, none⟩ 1 [c] Tryd.underlying42 Tryd.underlying5 Tryd.underlying9 (fun j hj => by
              match j, hj with
              | 0, _ => simp [Addr.add, hcc])
          have hcat : (⟨#[c]⟩ : ByteArray) ++ ⟨d.toArray⟩ = ⟨(c :: d).toArray⟩ := cat2 [c] d
          have HD2 : Hid (Words.digs (m / 10) ++ (c :: d) = Words.digs N) := hide (by
            rw [← unhide HD, Words.digs_pos (by omega : m ≠ 0), hcn, hc]
            simp)
          have hdl2 : (c :: d).length ≤ 20 := by
            have h1 := congrArg List.length (unhide HD2)
            have h2 := Words.digs_len 20 N (by omega)
            rw [List.length_append] at h1
            omega
          have HB3 := hide ((unhide HB).alloc (unhide HB).size (.cells #[.int .u8 (cn : Int)] 5))
          clear hcn hc hcc
          go_wp2_with fail
          go_roundw
          case rel => exact ⟨m / 10, c :: d, by omega, by go_num, rfl, hdl2, HD2, HB3⟩
          case measure => simp [intOf]; omega
        · obtain rfl : m = 0 := by omega
          clear hm0
          have hd := unhide HD
          rw [Words.digs_zero, List.nil_append] at hd
          have hD : ∃ D : List UInt8, D = Words.dec N ∧ ((N = 0 ∧ (⟨#[48]⟩ : ByteArray) = ⟨D.toArray⟩) ∨ (N ≠ 0 ∧ D = d)) := by
            by_cases h0 : N = 0
            · exact ⟨_, rfl, .inl ⟨h0, by rw [h0]; rfl⟩⟩
            · exact ⟨_, rfl, .inr ⟨h0, by unfold Words.dec; rw [if_neg h0, hd]⟩⟩
          obtain ⟨D, hD1, hD2⟩ := hD
          rw [← hD1] at HTD HDL
          have hDl := unhide HDL
          obtain ⟨X, hX⟩ : ∃ X, mm ++ D = X := ⟨_, rfl⟩
          have hcat : (⟨mm.toArray⟩ : ByteArray) ++ ⟨D.toArray⟩ = ⟨X.toArray⟩ := by rw [cat2, hX]
          have hXl : X.length ≤ 25 := by rw [← hX, List.length_append]; omega
          rw [hX] at HTD
          clear hX hD1 hd HD
          have hB0 : ((⟨#[48]⟩ : ByteArray) = ⟨D.toArray⟩ ∧ ((N : Int) == 0) = true) ∨ (D = d ∧ ((N : Int) == 0) = false) := by
            rcases hD2 with ⟨h1, h2⟩ | ⟨h1, h2⟩
            · exact .inl ⟨h2, by rw [beq_iff_eq]; omega⟩
            · exact .inr ⟨h2, by rw [beq_eq_false_iff_ne]; omega⟩
          clear hD2
          rcases hB0 with ⟨h48, hN0b⟩ | ⟨rfl, hN0b⟩
          all_goals (
            go_wp2_with fail
            refine (unhide HLN X _ (by omega)).mono ?_
            rintro e w2 ⟨u, g, er, rfl, ho, hs, hn, hb2⟩
            rw [unhide HTD] at ho hs hn
            by_cases hbig : Words.big < N
            · rw [if_pos hbig] at ho hs hn
              obtain rfl := hn.same (by decide)
              clear hn
              have HS := hide hs
              have HB4 := hide (bthen (unhide HB) hb2)
              obtain ⟨a2, c2, rfl⟩ := ho.tks.shape
              have hbg : (9223372036854775807 : Int) < (N : Int) := by unfold Words.big at hbig; omega
              clear ho hs hb2 hbig
              go_wp2_with fail
              refine (at_any wWord 0 5 w2).mono ?_
              rintro e w3 ⟨b3, rfl, hb3, h0, h1, hB3⟩
              have HTT := hide (unhide HTL w3 g (.agg #[.slice (some ⟨b3, 0, none⟩) 1 1, .int .i64 5]) 0 5 _ w2.heap.size ((unhide HG).below (bthen (unhide HB4) hB3)) ((unhide HS).below hB3) (.inr ⟨by decide, b3, hb3, rfl, h0, h1⟩))
              have HB5 := hide (bthen (unhide HB4) hB3)
              clear hb3 h0 h1 hB3
              go_wp2_with fail
              refine (unhide HTT).mono ?_
              rintro e w4 ⟨rfl, hb4⟩
              have HB6 := hide (bthen (unhide HB5) hb4)
              clear hb4
              go_wp2
              go_ret
              exact ⟨rfl, unhide HB6⟩
            · rw [if_neg hbig] at ho hs hn
              obtain rfl := hn.same (show (0 : Nat) ≠ 3 by decide)
              clear hn
              obtain rfl : g = .nilIface := by
                rcases hs with ⟨_, h⟩ | ⟨h, _⟩
                · exact h
                · exact absurd rfl h
              have HB4 := hide (bthen (unhide HB) hb2)
              rcases ho.tks with ⟨_, _, _, hnil⟩ | ⟨b5, off5, cap5, rfl, hcap5, hcells⟩
              · cases hnil
              obtain ⟨d0, d1, d2, d3⟩ := hcells 0 (by simp)
              simp only [Nat.zero_mul, Nat.add_zero, List.getElem_cons_zero] at d0 d1 d2 d3
              have hbg : ¬ (9223372036854775807 : Int) < (N : Int) := by unfold Words.big at hbig; omega
              have hbg2 : N ≤ 9223372036854775807 := by omega
              clear ho hs hb2 hbig hcells hcap5
              go_wp2
              go_ret
              exact ⟨rfl, unhide HB4⟩)
end Go.Proofs.YtmdifoejacogpaaDoor.Line
