/- TokBlanks, walked, over contracts of the project's Line and of known. -/
import Derived.Test.YtmdifoejacogpaaDoorTokSpec
import Derived.Test.YtmdifoejacogpaaDoorTokRef
import Derived.Test.YtmdifoejacogpaaDoorPlainTokMore
import Derived.BigQuiet
import Derived.Deep.QuietTactic
import Derived.Deep.CutBlock
namespace Go.Proofs.YtmdifoejacogpaaDoor.Line
open Go.ChangeShapes Go.WideShapes Go.ChangeAt Go.RowKit
set_option linter.unusedVariables false

/-- bytes that are only read -/
def Bts (w : World) (v : Value) (bs : List UInt8) : Prop :=
  (∃ a cap, v = .slice a 0 cap ∧ bs = []) ∨
  (∃ b off cap, v = .slice (some ⟨b, off, none⟩) bs.length cap ∧ bs.length ≤ cap ∧ ∀ i (h : i < bs.length), w.cell? ⟨b, off + i, none⟩ = some (.int .u8 (bs[i].toNat : Int)))
theorem Bts.shape {w : World} {v : Value} {l : List UInt8} (h : Bts w v l) : ∃ a cap, v = .slice a l.length cap := by
  rcases h with ⟨a, cap, rfl, rfl⟩ | ⟨b, off, cap, rfl, _⟩
  · exact ⟨_, _, rfl⟩
  · exact ⟨_, _, rfl⟩
theorem Bts.below {w w' : World} {v : Value} {l : List UInt8} (h : Bts w v l) (hb : Below w.heap.size w w') : Bts w' v l := by
  rcases h with h | ⟨b, off, cap, rfl, hc, h⟩
  · exact .inl h
  · exact .inr ⟨b, off, cap, rfl, hc, fun i hi => by rw [hb.cell (p := ⟨b, off + i, none⟩) (cell_lt (h i hi))]; exact h i hi⟩
/-- the blanks ahead of word j -/
def extra (bs : List UInt8) (j : Nat) : List UInt8 := match bs[j]? with
  | some b => List.replicate (b.toNat % 4) (if b.toNat / 4 % 2 = 0 then 32 else 9)
  | none => []
def withB (bs : List UInt8) (T : List Words.T) : List (List UInt8 × Words.T) := T.mapIdx fun j t => (32 :: extra bs j, t)
theorem withB_take (bs : List UInt8) (T : List Words.T) (i : Nat) (h : i < T.length) : (withB bs T).take (i + 1) = (withB bs T).take i ++ [(32 :: extra bs i, T[i])] := by
  have hl : i < (withB bs T).length := by unfold withB; simpa using h
  rw [List.take_succ_eq_append_getElem hl]
  congr 1
  simp [withB]
theorem spaced_snoc (L : List (List UInt8 × Words.T)) (x : List UInt8 × Words.T) : Words.spaced (L ++ [x]) = Words.spaced L ++ (x.1 ++ x.2.text) := by
  induction L with
  | nil => simp [Words.spaced]
  | cons y L ih => show y.1 ++ (y.2.text ++ Words.spaced (L ++ [x])) = y.1 ++ (y.2.text ++ Words.spaced L) ++ _; rw [ih]; simp
theorem extra_len (bs : List UInt8) (j : Nat) : (extra bs j).length ≤ 3 := by
  unfold extra
  split
  · rw [List.length_replicate]; omega
  · simp
theorem withB_apart (bs : List UInt8) (T : List Words.T) (h : ∀ t ∈ T, Words.Valid t) : Words.Apart (withB bs T) := by
  intro x hx
  unfold withB at hx
  obtain ⟨j, hj, rfl⟩ := List.mem_mapIdx.1 hx
  refine ⟨List.cons_ne_nil _ _, fun c hc => ?_, h _ (List.getElem_mem hj)⟩
  rcases List.mem_cons.1 hc with rfl | h1
  · rfl
  · unfold extra at h1
    split at h1
    · rw [List.eq_of_mem_replicate h1]
      split <;> rfl
    · cases h1
theorem withB_map (bs : List UInt8) (T : List Words.T) : (withB bs T).map (fun x => (x.2.kind, x.2.text, x.2.n)) = T.map (fun t => (t.kind, t.text, t.n)) := by
  unfold withB
  apply List.ext_getElem
  · simp
  · intro i h1 h2; simp

set_option maxHeartbeats 8000000 in
set_option maxRecDepth 100000 in
theorem tokBlanks_walk (HLINE : LineSpec) (HKNOWN : KnownSpec) (l bs : List UInt8) (v : Value) (w : World) (hv : Bts w v bs) (hl : l.length ≤ 9223372036854775807) (hbs : bs.length ≤ 9223372036854775807) : Calls Tryd.prog 6 #[.string ⟨l.toArray⟩, v] w fun e w' => e = .returned (.bool true) ∧ Below w.heap.size w w' := by
  have hsz : ((⟨l.toArray⟩ : ByteArray).size : Int) = l.length := rfl
  have HLN := hide HLINE
  have HKN := hide (HKNOWN w)
  have HV := hide hv
  obtain ⟨va, vc, rfl⟩ := hv.shape
  clear HLINE HKNOWN hv
  by_cases g1 : 200 < l.length
  · have q1 : decide (200 < l.length) = true := decide_eq_true g1
    go_enter Tryd.func6, Tryd.ntmps6
    go_wp2_with fail
    refine (unhide HKN).mono ?_
    rintro e w1 ⟨rfl, hb1⟩
    have H1 := hide hb1
    clear hb1
    go_wp2
    go_ret
    exact ⟨rfl, unhide H1⟩
  have q1 : decide (200 < l.length) = false := decide_eq_false g1
  by_cases g2 : 60 < bs.length
  · have q2 : decide (60 < bs.length) = true := decide_eq_true g2
    go_enter Tryd.func6, Tryd.ntmps6
    go_wp2_with fail
    refine (unhide HKN).mono ?_
    rintro e w1 ⟨rfl, hb1⟩
    have H1 := hide hb1
    clear hb1
    go_wp2
    go_ret
    exact ⟨rfl, unhide H1⟩
  have q2 : decide (60 < bs.length) = false := decide_eq_false g2
  go_enter Tryd.func6, Tryd.ntmps6
  go_wp2_with fail
  refine (unhide HKN).mono ?_
  rintro e w1 ⟨rfl, hb1⟩
  have H1 := hide hb1
  clear hb1
  go_wp2_with fail
  refine (refToks_any l (by omega) w1).mono ?_
  rintro e w3 ⟨u3, g3, rfl, ho3, ht3, hb3⟩
  obtain ⟨ga, gn, rfl⟩ := told_agg ht3
  have hgood := toks_good l
  have hcnt := toks_count l
  have hval := Words.scanAt_valid l 0
  have HGD := hide (And.intro hgood hval)
  have ba := alloc_below w3 (.cells #[.slice ga gn gn, .int .i64 ((Words.toks l).2.1 : Int)] 31)
  have H3 := hide (And.intro (ho3.tks.below ba) (And.intro ((((unhide HV).below (unhide H1)).below hb3).below ba) (bthen (bthen (unhide H1) hb3) ba)))
  obtain ⟨a3, c3, rfl⟩ := ho3.tks.shape
  clear ho3 ht3 hb3 ba hgood hval HV
  by_cases her : ¬ (Words.toks l).2.1 = 0
  · have t1 : (((Words.toks l).2.1 : Int) != 0) = true := by rw [bne_iff_ne]; omega
    have t2 : ¬ ((Words.toks l).2.1 : Int) = 0 := by omega
    clear her HGD
    generalize (Words.toks l).2.1 = er at *
    go_wp2
    go_ret
    exact ⟨rfl, (unhide H3).2.2⟩
  replace her := Decidable.not_not.1 her
  rw [her] at H3 ⊢
  have HGD2 : Hid (Words.Good l 0 (Words.toks l).1 ∧ ∀ t ∈ (Words.toks l).1, Words.Valid t) := HGD
  clear her HGD
  generalize (Words.toks l).1 = T at *
  go_wp2_with fail
  generalize w3.alloc (.cells #[.slice ga gn gn, .int .i64 ((0 : Nat) : Int)] 31) = W0 at *
  have HAP := hide (withB_apart bs T (unhide HGD2).2)
  have hTX : ∀ i (h : i < T.length), T[i].text.length ≤ 200 := by
    have key : ∀ (T : List Words.T) a, Words.Good l a T → ∀ t ∈ T, t.text.length ≤ l.length := by
      intro T
      induction T with
      | nil => intro a _ t ht; cases ht
      | cons x T ih =>
        intro a h t ht
        obtain ⟨_, h2, _, _, h5⟩ := h
        rcases List.mem_cons.1 ht with rfl | h6
        · omega
        · exact ih _ h5 t h6
    intro i h
    have := key T 0 (unhide HGD2).1 _ (List.getElem_mem h)
    omega
  have HTX := hide hTX
  clear hTX
  go_loopw [7, 8] (fun x q wr => ∃ (i : Nat) (t : List UInt8), i ≤ T.length ∧ q = .int .i64 i ∧ x = .string ⟨t.toArray⟩ ∧ t.length ≤ i * 210 ∧ Hid (t = Words.spaced ((withB bs T).take i)) ∧ Hid (Below W0.heap.size W0 wr)) (fun _ q _ => T.length - (intOf q).toNat)
  case atStart => exact ⟨0, [], Nat.zero_le _, rfl, rfl, by simp, hide rfl, hide (Below.refl _ _)⟩
  case round =>
    obtain ⟨i, t, hi, rfl, rfl, htl, HT, HBW⟩ := hrel
    by_cases hlt : i < T.length
    · have htx := unhide HTX i hlt
      have hlt2 : (i : Int) < T.length := by omega
      have ht3 : t.length ≤ 42000 := by omega
      obtain ⟨t1, ht1⟩ : ∃ t1, t ++ [32] = t1 := ⟨_, rfl⟩
      have e1 : (⟨t.toArray⟩ : ByteArray) ++ ⟨#[32]⟩ = ⟨t1.toArray⟩ := by rw [← ht1]; exact cat2 t [32]
      have l1 : t1.length = t.length + 1 := by rw [← ht1]; simp
      obtain ⟨t2, ht2⟩ : ∃ t2, t1 ++ extra bs i = t2 := ⟨_, rfl⟩
      have l2 : t2.length ≤ t.length + 4 := by rw [← ht2, List.length_append]; have := extra_len bs i; omega
      obtain ⟨t4, ht4⟩ : ∃ t4, t2 ++ T[i].text = t4 := ⟨_, rfl⟩
      have HT4 : Hid (t4 = Words.spaced ((withB bs T).take (i + 1))) := hide (by
        rw [withB_take bs T i hlt, spaced_snoc, ← unhide HT, ← ht4, ← ht2, ← ht1]
        simp)
      have l4 : t4.length ≤ (i + 1) * 210 := by rw [← ht4, List.length_append]; omega
      have hTK := (unhide H3).1
      have hBT := (unhide H3).2.1
      rcases hTK with ⟨_, _, _, hnil⟩ | ⟨b, off, cap, hval, hcap, hcells⟩
      · exact absurd hlt (by rw [hnil]; simp)
      injection hval with hv1 hv2 hv3
      subst hv1
      subst hv3
      have d1 := (hcells i hlt).2.1
      have hbw := cell_lt d1
      have HD1 := hide (And.intro hbw d1)
      clear hcells hv2 d1 hbw
      have e4 : (⟨t2.toArray⟩ : ByteArray) ++ ⟨T[i].text.toArray⟩ = ⟨t4.toArray⟩ := by rw [cat2, ht4]
      have HT2 := hide ht2
      clear ht1 ht2 ht4
      generalize hTx : T[i].text = tx at *
      clear hTx
      by_cases hib : i < bs.length
      · rcases hBT with ⟨_, _, _, hnil⟩ | ⟨vb, voff, vcap, hval', hcap', hbc⟩
        · exact absurd hib (by rw [hnil]; simp)
        injection hval' with hv1' hv2' hv3'
        subst hv1'
        subst hv3'
        have cb := hbc i hib
        have hvb := cell_lt cb
        have HCB := hide (And.intro hvb cb)
        have hib2 : (i : Int) < bs.length := by omega
        obtain ⟨m, hm⟩ : ∃ m, bs[i].toNat % 4 = m := ⟨_, rfl⟩
        obtain ⟨zi, hzi⟩ : ∃ zi, bs[i].toNat / 4 % 2 = zi := ⟨_, rfl⟩
        obtain ⟨z, hz⟩ : ∃ z : UInt8, (if zi = 0 then 32 else 9) = z := ⟨_, rfl⟩
        have HEX : Hid (extra bs i = List.replicate m z) := hide (by unfold extra; rw [List.getElem?_eq_getElem hib]; simp only [hm, hzi, hz])
        have hc256 : bs[i].toNat < 256 := bs[i].toNat_lt
        clear hbc hv2' cb hvb
        generalize bs[i].toNat = cn at *
        have hzi2 : zi < 2 := by omega
        have hzs : ∀ wx : World, (wx.alloc (.cells #[.string ⟨#[32]⟩, .string ⟨#[9]⟩] 9)).cell? ⟨wx.heap.size, zi, none⟩ = some (.string ⟨#[z]⟩) := by
          intro wx
          rw [← hz]
          have : zi = 0 ∨ zi = 1 := by omega
          rcases this with h | h
          · rw [h]; simp
          · rw [h]; simp
        have HZS := hide hzs
        have hm4 : (cn : Int) % 4 = m := by omega
        have hz4 : (cn : Int) / 4 % 2 = zi := by omega
        clear hzs hz hzi hm
        go_upto_block 2 with fail
        go_cut [7] from 31 to 70 (fun x wx => x = .string ⟨t2.toArray⟩ ∧ Hid (Below W0.heap.size W0 wx))
        case first =>
          go_wp2_with fail
          go_loopw [7, 9] (fun x q wx => ∃ (k : Nat) (tk : List UInt8), k ≤ m ∧ q = .int .i64 k ∧ x = .string ⟨tk.toArray⟩ ∧ tk.length ≤ 43000 ∧ Hid (tk = t1 ++ List.replicate k z) ∧ Hid (Below W0.heap.size W0 wx)) (fun _ q _ => m - (intOf q).toNat)
          case atStart => exact ⟨0, t1, Nat.zero_le _, rfl, rfl, by omega, hide (by simp), HBW⟩
          case round =>
            obtain ⟨k, tk, hk, rfl, rfl, htk, HTK, HBX⟩ := hrel
            have cb := ((unhide HBX).cell (p := ⟨vb, voff + i, none⟩) (unhide HCB).1).trans (unhide HCB).2
            by_cases hkm : k < m
            · obtain ⟨tn, htn⟩ : ∃ tn, tk ++ [z] = tn := ⟨_, rfl⟩
              have en : (⟨tk.toArray⟩ : ByteArray) ++ ⟨#[z]⟩ = ⟨tn.toArray⟩ := by rw [← htn]; exact cat2 tk [z]
              have HTN : Hid (tn = t1 ++ List.replicate (k + 1) z) := hide (by rw [← htn, unhide HTK, List.replicate_succ', List.append_assoc])
              have hln : tn.length ≤ 43000 := by
                rw [unhide HTN, List.length_append, List.length_replicate]
                omega
              clear htn
              have ba := (unhide HBX).alloc (unhide HBX).size (.cells #[.string ⟨#[32]⟩, .string ⟨#[9]⟩] 9)
              have cb2 := (ba.cell (p := ⟨vb, voff + i, none⟩) (unhide HCB).1).trans (unhide HCB).2
              have zs := unhide HZS wr
              have HBA := hide ba
              clear ba
              go_wp2
              go_roundw
              case rel => exact ⟨k + 1, tn, by omega, by go_num, rfl, hln, HTN, HBA⟩
              case measure => simp [intOf]; omega
            · obtain rfl : k = m := by omega
              have HQ : Hid (tk = t2) := hide (by rw [unhide HTK, ← unhide HT2, unhide HEX])
              go_wp2_with fail
              go_meet
              case rel => exact ⟨by rw [unhide HQ], HBX⟩
        case rest =>
          obtain ⟨rfl, HB5⟩ := hcut
          have d1 := ((unhide HB5).cell (p := ⟨b, off + i * 4 + 1, none⟩) (unhide HD1).1).trans (unhide HD1).2
          go_wp2
          go_roundw
          case rel => exact ⟨i + 1, t4, by omega, by go_num, rfl, l4, HT4, HB5⟩
          case measure => simp [intOf]; omega
      · have HQ : Hid (t1 = t2) := hide (by rw [← unhide HT2]; unfold extra; rw [List.getElem?_eq_none (by omega)]; simp)
        obtain rfl := unhide HQ
        have d1 := ((unhide HBW).cell (p := ⟨b, off + i * 4 + 1, none⟩) (unhide HD1).1).trans (unhide HD1).2
        clear HQ HT2 hBT
        go_wp2
        go_roundw
        case rel => exact ⟨i + 1, t4, by omega, by go_num, rfl, l4, HT4, HBW⟩
        case measure => simp [intOf]; omega
    · have HTT : Hid (t = Words.spaced (withB bs T)) := hide (by
        have h1 := unhide HT
        rw [List.take_of_length_le (by unfold withB; simp; omega)] at h1
        exact h1)
      have htl2 : t.length ≤ 100000 := by omega
      obtain ⟨T2, hR2, hM2⟩ := Words.toks_spaced (withB bs T) (unhide HAP)
      rw [withB_map] at hM2
      rw [← unhide HTT] at hR2
      have hlen2 : T2.length = T.length := by have := congrArg List.length hM2; simpa using this
      have hsame : ∀ j (h : j < T.length) (h2 : j < T2.length), T2[j].kind = T[j].kind ∧ T2[j].text = T[j].text ∧ T2[j].n = T[j].n := by
        intro j h h2
        have h3 : (T2.map (fun t => (t.kind, t.text, t.n)))[j]? = (T.map (fun t => (t.kind, t.text, t.n)))[j]? := by rw [hM2]
        rw [List.getElem?_map, List.getElem?_map, List.getElem?_eq_getElem h, List.getElem?_eq_getElem h2] at h3
        injection h3 with h3
        injection h3 with h4 h5
        injection h5 with h5 h6
        exact ⟨h4, h5, h6⟩
      have HSM := hide hsame
      have HR2 := hide hR2
      clear hsame hR2 hM2 HT HTT HTX
      go_wp2_with fail
      refine (unhide HLN t _ htl2).mono ?_
      rintro e w7 ⟨u7, g7, er7, rfl, ho7, hs7, hn7, hb7⟩
      rw [unhide HR2] at ho7 hs7 hn7
      obtain rfl := hn7.same (show (0 : Nat) ≠ 3 by decide)
      obtain rfl : g7 = .nilIface := by
        rcases hs7 with ⟨_, h⟩ | ⟨h, _⟩
        · exact h
        · exact absurd rfl h
      have H7 := hide (And.intro (((unhide H3).1.below (unhide HBW)).below hb7) (And.intro ho7.tks (bthen (bthen (unhide H3).2.2 (unhide HBW)) hb7)))
      obtain ⟨a7, c7, rfl⟩ := ho7.tks.shape
      rw [hlen2]
      clear ho7 hs7 hn7 hb7
      go_wp2_with fail
      go_loopw [12] (fun q wx => ∃ j : Nat, j ≤ T.length ∧ q = .int .i64 j ∧ ∃ n, wx = w7.drewN n) (fun q _ => T.length - (intOf q).toNat)
      case atStart => exact ⟨0, Nat.zero_le _, rfl, 0, rfl⟩
      case round =>
        obtain ⟨j, hj, rfl, n, rfl⟩ := hrel
        by_cases hjl : j < T.length
        · have hjl2 : (j : Int) < T.length := by omega
          have hjt : j < T2.length := by omega
          obtain ⟨s1, s2, s3⟩ := unhide HSM j hjl hjt
          have hA := (unhide H7).1.drewN n
          have hB := (unhide H7).2.1.drewN n
          generalize hW : w7.drewN n = W at *
          have HW := hide hW
          clear hW
          rcases hA with ⟨_, _, _, hnil⟩ | ⟨b, off, cap, hval, hcap, hcells⟩
          · exact absurd hjl (by rw [hnil]; simp)
          injection hval with hv1 hv2 hv3
          subst hv1
          subst hv3
          rcases hB with ⟨_, _, _, hnil⟩ | ⟨b', off', cap', hval', hcap', hcells'⟩
          · exact absurd hjt (by rw [hnil]; simp)
          injection hval' with hv1' hv2' hv3'
          subst hv1'
          subst hv3'
          obtain ⟨d0, d1, -, d3⟩ := hcells j hjl
          obtain ⟨f0, f1, -, f3⟩ := hcells' j hjt
          rw [s1] at f0
          rw [s2] at f1
          rw [s3] at f3
          clear hcells hcells' hv2 hv2' s1 s2 s3
          generalize T[j].kind = kd at *
          generalize T[j].text = tx at *
          generalize T[j].n = nn at *
          go_wp2_with fail
          go_quiet (fail)
          go_wp2
          go_roundw
          case rel => exact ⟨j + 1, by omega, by go_num, _, by rw [← unhide HW, World.drewN_drewN]⟩
          case measure => simp [intOf]; omega
        · go_wp2
          go_ret
          exact ⟨rfl, below_drewN (unhide H7).2.2 n⟩
end Go.Proofs.YtmdifoejacogpaaDoor.Line
