/-
  Layer 9: the reference's Check, Size, one.
-/
import Derived.Test.YtjmnhnijmaceeaaDoorPxrRef
import Derived.Test.YtjmnhnijmaceeaaDoorPxrRefN
import Derived.Test.YtjmnhnijmaceeaaDoorPxrChk
namespace Go.Proofs.YtjmnhnijmaceeaaDoor.Pxr
open Go.RowKit

theorem rnE_chkS (v : ByteArray) : rnE 1099511627776 (numsOf v) = chkS v := by
  unfold rnE chkS
  by_cases h : decOk (numsOf v) = false
  · rw [if_pos h, if_pos h]
  · rw [if_neg h, if_neg h]
    by_cases h2 : 1099511627776 < decV (numsOf v)
    · rw [if_pos h2, if_pos (by omega)]
    · rw [if_neg h2, if_neg (by omega)]

set_option maxHeartbeats 2000000 in
set_option maxRecDepth 100000 in
theorem rcheck_any (k v : ByteArray) (w : World) (hv : v.size ≤ maxLen) : Calls Tryd.prog 14 #[.agg #[.string k, .string v]] w fun e w' => e = .returned (.int .i64 (chk (k, v))) ∧ Below w.heap.size w w' := by
  have HV := Lib.hid hv
  unfold maxLen at hv
  obtain ⟨R, hR⟩ := named (chk (k, v))
  rw [← hR.out]
  have b0 : Hid (Below w.heap.size w (w.alloc (.cells #[.string k, .string v] 32))) := (Below.refl _ w).alloc (Nat.le_refl _) _
  have hd := hR.out
  unfold chk at hd
  dsimp only at hd
  by_cases h1 : k = kLink ∨ k = kPath
  · rw [if_pos h1] at hd
    have tests : (k.toList == [108, 105, 110, 107, 112, 97, 116, 104]) = true ∨ ((k.toList == [108, 105, 110, 107, 112, 97, 116, 104]) = false ∧ (k.toList == [112, 97, 116, 104]) = true) := by
      obtain ⟨t0, t1, _⟩ := key_tests k _ _ _ rfl rfl rfl
      rw [t0, t1]
      rcases h1 with rfl | rfl
      · exact .inl (by decide)
      · exact .inr (by decide)
    clear h1 hR
    have HA : Hid (∀ j (h : j < v.size), (numsOf v).getD j 0 = (v[j].toNat : Int)) := num_at v
    have NL := Lib.hid (numsOf_length v)
    by_cases h2 : 65536 < v.size
    · have m1 : (65536 : Int) < v.size := by omega
      have e := Lib.hid (hd.trans (by unfold chkT; rw [if_pos h2]))
      clear hd h2
      rcases tests with t0 | ⟨t0, t1⟩
      all_goals
        go_enter Tryd.func14, Tryd.ntmps14
        go_wp2
        go_ret
        exact ⟨by rw [e.out]; rfl, b0.out⟩
    · have m1 : ¬ (65536 : Int) < v.size := by omega
      have HD := Lib.hid hd
      have H2 := Lib.hid h2
      clear hd h2
      rcases tests with t0 | ⟨t0, t1⟩
      all_goals
        go_enter Tryd.func14, Tryd.ntmps14
        go_wp2
        go_loop [3] (fun i => ∃ j : Nat, i = .int .i64 j ∧ j ≤ v.size ∧ ∀ x, x < j → (numsOf v).getD x 0 ≠ 0) (fun i => v.size - (intOf i).toNat)
        case atStart => exact ⟨0, rfl, Nat.zero_le _, fun x hx => by omega⟩
        case round =>
          obtain ⟨j, rfl, hj, hn⟩ := hrel
          have HN := Lib.hid hn
          clear hn
          by_cases hlt : j < v.size
          · have hx := HA.out j hlt
            obtain ⟨x, hxe⟩ : ∃ x : Int, ((v[j].toNat : Nat) : Int) = x := ⟨_, rfl⟩
            rw [hxe] at hx
            have HX := Lib.hid hx
            have j1 : (j : Int) < v.size := by omega
            clear hx
            by_cases hz : x = 0
            · have m2 : (x == 0) = true := by rw [hz]; rfl
              have hmem : (0 : Int) ∈ numsOf v := by
                have := HX.out
                rw [hz, List.getD_eq_getElem?_getD, List.getElem?_eq_getElem (by rw [NL.out]; exact hlt)] at this
                exact this ▸ List.getElem_mem _
              have e := Lib.hid (HD.out.trans (by unfold chkT; rw [if_neg H2.out, if_pos (.inr hmem)]))
              clear hz hmem
              go_wp2
              go_ret
              exact ⟨by rw [e.out]; rfl, b0.out⟩
            · have m2 : (x == 0) = false := by simpa using hz
              have HZ := Lib.hid hz
              clear hz
              go_wp2
              go_round
              case rel => exact ⟨j + 1, by go_num, by omega, fun y hy => by
                by_cases e : y = j
                · rw [e, HX.out]; exact HZ.out
                · exact HN.out y (by omega)⟩
              case measure => simp [intOf]; omega
          · obtain rfl : j = v.size := by omega
            have j1 : ¬ (v.size : Int) < v.size := by omega
            have hno : (0 : Int) ∉ numsOf v := fun h => by
              obtain ⟨y, hy, e⟩ := List.getElem_of_mem h
              apply HN.out y (by rw [NL.out] at hy; exact hy)
              rw [List.getD_eq_getElem?_getD, List.getElem?_eq_getElem hy, e]; rfl
            clear hlt
            by_cases he : v = { data := #[] }
            · have hi : v.toList.isEmpty = true := by rw [he, ByteArray.toList_eq]; rfl
              have e := Lib.hid (HD.out.trans (by unfold chkT; rw [if_neg H2.out, if_pos (.inl (by rw [he]; rfl))]))
              clear he hno
              go_wp2
              go_ret
              exact ⟨by rw [e.out]; rfl, b0.out⟩
            · have hi := empty_no he
              have hs0 : v.size ≠ 0 := fun e => he (nums_inj (by rw [List.length_eq_zero_iff.1 ((numsOf_length v).trans e)]; rfl))
              have e := Lib.hid (HD.out.trans (by unfold chkT; rw [if_neg H2.out, if_neg (fun h => h.elim hs0 hno)]))
              clear he hno hs0
              go_wp2
              go_ret
              exact ⟨by rw [e.out]; rfl, b0.out⟩
  · rw [if_neg h1] at hd
    have t01 : (k.toList == [108, 105, 110, 107, 112, 97, 116, 104]) = false ∧ (k.toList == [112, 97, 116, 104]) = false := by
      obtain ⟨t0, t1, _⟩ := key_tests k _ _ _ rfl rfl rfl
      rw [t0, t1]
      exact ⟨decide_eq_false (fun h => h1 (.inl h)), decide_eq_false (fun h => h1 (.inr h))⟩
    obtain ⟨t0, t1⟩ := t01
    by_cases h2 : k = kSize
    · rw [if_pos h2] at hd
      have t2 := (key_tests k _ _ _ rfl rfl rfl).2.2
      rw [decide_eq_true h2] at t2
      have N := rnum_any v 1099511627776
      rw [rnE_chkS, ← hd] at N
      have HN := Lib.hid fun w' => N w' HV.out (by decide) (by decide)
      obtain ⟨q, hq⟩ := named (rnV 1099511627776 (numsOf v))
      rw [← hq.out] at HN
      clear hR hd h1 h2 N
      go_enter Tryd.func14, Tryd.ntmps14
      go_wp2_with fail
      refine (HN.out _).mono ?_; rintro e w1 ⟨rfl, rfl⟩
      go_wp2
      go_ret
      exact ⟨rfl, b0.out⟩
    · rw [if_neg h2] at hd
      have t2 := (key_tests k _ _ _ rfl rfl rfl).2.2
      rw [decide_eq_false h2] at t2
      have HD := Lib.hid hd
      clear hR hd h1 h2
      go_enter Tryd.func14, Tryd.ntmps14
      go_wp2
      go_ret
      exact ⟨by rw [HD.out]; rfl, b0.out⟩

set_option maxHeartbeats 2000000 in
set_option maxRecDepth 100000 in
theorem rsize_any (k v : ByteArray) (w : World) (h : oth (k, v) ≤ 1000000) : Calls Tryd.prog 16 #[.agg #[.string k, .string v]] w fun e w' => e = .returned (.int .i64 (szR (k, v) : Nat)) ∧ Below w.heap.size w w' := by
  obtain ⟨R, hR⟩ := named ((szR (k, v) : Nat) : Int)
  rw [← hR.out]
  obtain ⟨O, hO⟩ := named (oth (k, v))
  rw [← hO.out] at h
  have hO' := hO.out
  unfold oth at hO'
  dsimp only at hO'
  have b1 : (k.size : Int) ≤ 1000000 := by omega
  have b2 : (v.size : Int) ≤ 1000000 := by omega
  have HRR : Hid (R = ((szN O : Nat) : Int)) := by show _ = _; rw [hR.out]; unfold szR; rw [← hO.out]
  have HO : Hid ((k.size : Int) + (v.size : Int) + 3 = (O : Int)) := by show _ = _; omega
  have b0 : Hid (Below w.heap.size w (w.alloc (.cells #[.string k, .string v] 32))) := (Below.refl _ w).alloc (Nat.le_refl _) _
  have HL := Lib.hid h
  have HBD := Lib.hid (szN_bd h)
  clear hR hO hO' h
  go_enter Tryd.func16, Tryd.ntmps16
  go_wp2
  go_loopw [4] (fun d wr => ∃ (z : Int) (m : Nat), d = .int .i64 z ∧ Hid (z = m ∧ O + 1 ≤ m ∧ m ≤ szN O) ∧ 0 ≤ z ∧ z ≤ 1000100 ∧ Below w.heap.size w wr) (fun d _ => 1000101 - (intOf d).toNat)
  case atStart => exact ⟨_, O + 1, rfl, ⟨by have := HO.out; omega, Nat.le_refl _, HBD.out.1⟩, by omega, by have := HO.out; have := HL.out; omega, b0.out⟩
  case round =>
    obtain ⟨z, m, rfl, hm, z0, z1, hb⟩ := hrel
    have HB := Lib.hid hb
    have I := rdec_any m (by have := hm.out.1; omega) wr
    rw [← hm.out.1] at I
    obtain ⟨T, hT⟩ := named (strOfNums (decD m))
    rw [← hT.out] at I
    have HI := Lib.hid I
    have HTS : Hid (T.size = Lib.nDigits m) := by show _ = _; rw [hT.out, strD_size]
    have ts : (T.size : Int) ≤ 10 := by
      have := nDigits_le 7 m (by have : (10 : Nat) ^ (7 + 1) = 100000000 := by decide
                                 have := hm.out.1
                                 omega)
      have := HTS.out
      omega
    clear hb I hT
    by_cases ht : Lib.nDigits m + O = m
    · have q1 : ((T.size : Int) + ((k.size : Int) + (v.size : Int) + 3) != z) = false := by
        have := HTS.out; have := HO.out; have := hm.out.1
        simp; omega
      have HE : Hid (R = z) := by
        show _ = _
        rw [HRR.out, hm.out.1]
        have h1 := szN_least HL.out ht
        have h2 := hm.out.2.2
        omega
      clear ht
      go_wp2_with fail
      refine HI.out.mono ?_; rintro e w1 ⟨rfl, b3⟩
      have B3 := Lib.hid b3
      clear b3
      go_wp2
      go_ret
      exact ⟨by rw [HE.out]; rfl, HB.out.trans (B3.out.mono HB.out.size)⟩
    · have q1 : ((T.size : Int) + ((k.size : Int) + (v.size : Int) + 3) != z) = true := by
        have := HTS.out; have := HO.out; have := hm.out.1
        simp; omega
      have HM : Hid (m + 1 ≤ szN O) := by
        show _ ≤ _
        have h1 := szN_fix HL.out
        have h2 := hm.out.2.2
        rcases Nat.lt_or_ge m (szN O) with h | h
        · exact h
        · exact absurd (by rw [show szN O = m by omega] at h1; exact h1) ht
      have z2 : z + 1 ≤ 1000100 := by have := HM.out; have := HBD.out; have := HL.out; have := hm.out.1; omega
      clear ht
      go_wp2_with fail
      refine HI.out.mono ?_; rintro e w1 ⟨rfl, b3⟩
      have B3 := Lib.hid b3
      clear b3
      go_wp2
      go_roundw
      case rel => exact ⟨z + 1, m + 1, rfl, ⟨by have := hm.out.1; omega, by have := hm.out; omega, HM.out⟩, by omega, z2, HB.out.trans (B3.out.mono HB.out.size)⟩
      case measure => simp [intOf]; omega
end Go.Proofs.YtjmnhnijmaceeaaDoor.Pxr
