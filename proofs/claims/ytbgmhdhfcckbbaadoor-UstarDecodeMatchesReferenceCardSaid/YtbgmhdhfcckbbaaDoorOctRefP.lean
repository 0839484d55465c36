/-
  The reference of layer 1: Parse.
-/
import Derived.Test.YtbgmhdhfcckbbaaDoorOctRefF
namespace Go.Proofs.YtbgmhdhfcckbbaaDoor.Oct
open Go.RowKit

set_option maxHeartbeats 400000 in
theorem rparse_len (a : Option Addr) (len cap : Nat) (w : World) (h : len < 2 ∨ 22 < len) (hm : len ≤ maxLen) :
    Calls Tryd.prog 31 #[.slice a len cap] w fun e w' => e = .returned (.tuple #[.int .i64 0, .int .i64 2]) ∧ w = w' := by
  unfold maxLen at hm
  by_cases h1 : len < 2
  · have h1' : (len : Int) < 2 := by omega
    clear h
    go_enter Tryd.func31, Tryd.ntmps31
    go_wp2
    go_ret2
    exact ⟨rfl, rfl⟩
  · have h1' : ¬ (len : Int) < 2 := by omega
    have h2' : (22 : Int) < len := by omega
    clear h
    go_enter Tryd.func31, Tryd.ntmps31
    go_wp2
    go_ret2
    exact ⟨rfl, rfl⟩

theorem wrap_back (x : Int) (h0 : 0 ≤ x - 48) (h1 : x - 48 ≤ 9223372036854775807) : wrap64 (wrap64 x - 48) = x - 48 := by unfold wrap64; omega

set_option maxHeartbeats 400000 in
theorem rparse_ok (b off m cap : Nat) (zs : List Int) (w : World) (hz : zs.length = m + 1) (h1 : 1 ≤ m) (h2 : m ≤ 21) (hr : RowAt w b off zs) (hl : zs.getD m 0 = 0) (ho : OctD (zs.take m)) :
    Calls Tryd.prog 31 #[.slice (some ⟨b, off, none⟩) (m + 1) cap] w fun e w' => e = .returned (.tuple #[.int .i64 (val (zs.take m)), .int .i64 0]) ∧ w = w' := by
  have HR := Lib.hid hr
  have HO := Lib.hid ho
  have HZ := Lib.hid hz
  have HL := Lib.hid hl
  have h3 : ¬ (m : Int) + 1 < 2 := by omega
  have h4 : ¬ 22 < (m : Int) + 1 := by omega
  clear hl hr hz ho
  go_enter Tryd.func31, Tryd.ntmps31
  go_wp2
  go_loop [4, 5] (fun t i => ∃ j : Nat, j ≤ m + 1 ∧ i = .int .i64 j ∧ t = .int .i64 (val (zs.take (min j m)))) (fun _ i => m + 1 - (intOf i).toNat)
  case atStart => exact ⟨0, Nat.zero_le _, rfl, by rw [Nat.zero_min]; rfl⟩
  case round =>
    obtain ⟨j, hj, rfl, rfl⟩ := hrel
    by_cases hlt : j < m
    · obtain ⟨d, hd, d2, d3, hcj⟩ := HR.out.get j (by have := HZ.out; omega)
      rw [Nat.min_eq_left (by omega : j ≤ m)]
      have HV : Hid (val (zs.take (min (j + 1) m)) = 8 * val (zs.take j) + d - 48) := by
        show _ = _; rw [Nat.min_eq_left (by omega : j + 1 ≤ m), take_snoc (by have := HZ.out; omega), val_snoc, hd]; omega
      have hdd : 48 ≤ d ∧ d ≤ 55 := by
        apply HO.out; rw [hd, List.mem_take_iff_getElem]
        have := HZ.out
        exact ⟨j, by omega, by simp [List.getD_eq_getElem?_getD, show j < zs.length by omega]⟩
      obtain ⟨d4, d5⟩ := hdd
      have hb := val_bd j (zs.take j) (by have := HZ.out; rw [List.length_take]; omega) (fun x hx => HO.out x (by
        rw [List.mem_take_iff_getElem] at hx ⊢
        obtain ⟨i, hi, rfl⟩ := hx
        exact ⟨i, by omega, rfl⟩))
      obtain ⟨b0, b1⟩ := hb
      have b2 := mx_small (k := j) (by omega)
      have b3 : val (zs.take j) ≤ 1152921504606846975 := Int.le_trans b1 b2
      have d6 : ¬ d < 48 := by omega
      have d7 : ¬ 55 < d := by omega
      have e1 : ((j : Int) == (m : Int)) = false := by simp; omega
      have e2 : (j : Int) < (m : Int) + 1 := by omega
      clear b1 b2 hd d2 d3
      go_wp2
      go_round
      case rel => exact ⟨j + 1, by omega, by go_num, by rw [HV.out]; rw [wrap_back _ (by omega) (by omega)]⟩
      case measure => simp [intOf]; omega
    · by_cases hlt2 : j = m
      · subst hlt2
        obtain ⟨d, hd, d2, d3, hcj⟩ := HR.out.get j (by have := HZ.out; omega)
        obtain rfl : d = 0 := hd.trans HL.out
        rw [Nat.min_self]
        have e2 : (j : Int) < (j : Int) + 1 := by omega
        clear hd d2 d3
        go_wp2
        go_round
        case rel => exact ⟨j + 1, by omega, by go_num, by rw [Nat.min_eq_right (by omega)]⟩
        case measure => simp [intOf]
      · obtain rfl : j = m + 1 := by omega
        rw [Nat.min_eq_right (by omega)]
        go_wp2
        go_ret2
        exact ⟨rfl, rfl⟩

set_option maxHeartbeats 400000 in
theorem rparse_bad (b off m cap : Nat) (zs : List Int) (w : World) (hz : zs.length = m + 1) (h1 : 1 ≤ m) (h2 : m ≤ 21) (hr : RowAt w b off zs) (ho : ¬ (zs.getD m 0 = 0 ∧ OctD (zs.take m))) :
    Calls Tryd.prog 31 #[.slice (some ⟨b, off, none⟩) (m + 1) cap] w fun e w' => e = .returned (.tuple #[.int .i64 0, .int .i64 6]) ∧ w = w' := by
  have HR := Lib.hid hr
  have HO := Lib.hid ho
  have HZ := Lib.hid hz
  have h3 : ¬ (m : Int) + 1 < 2 := by omega
  have h4 : ¬ 22 < (m : Int) + 1 := by omega
  clear hr hz ho
  go_enter Tryd.func31, Tryd.ntmps31
  go_wp2
  go_loop [4, 5] (fun t i => ∃ j : Nat, j ≤ m ∧ i = .int .i64 j ∧ t = .int .i64 (val (zs.take j)) ∧ OctD (zs.take j)) (fun _ i => m + 1 - (intOf i).toNat)
  case atStart => exact ⟨0, Nat.zero_le _, rfl, rfl, fun x hx => by simp at hx⟩
  case round =>
    obtain ⟨j, hj, rfl, rfl, hoj⟩ := hrel
    have HJ := Lib.hid hoj; clear hoj
    obtain ⟨d, hd, d2, d3, hcj⟩ := HR.out.get j (by have := HZ.out; omega)
    have HD := Lib.hid hd; clear hd
    by_cases hlt : j < m
    · have e1 : ((j : Int) == (m : Int)) = false := by simp; omega
      have e2 : (j : Int) < (m : Int) + 1 := by omega
      by_cases hdd : 48 ≤ d ∧ d ≤ 55
      · have HV : Hid (val (zs.take (j + 1)) = 8 * val (zs.take j) + d - 48) := by
          show _ = _; rw [take_snoc (by have := HZ.out; omega), val_snoc, HD.out]; omega
        have HJ' : Hid (OctD (zs.take (j + 1))) := by
          show OctD _
          rw [take_snoc (by have := HZ.out; omega), ← HD.out]
          intro x hx
          rcases List.mem_append.1 hx with hx | hx
          · exact HJ.out x hx
          · obtain rfl : x = d := by simpa using hx
            exact hdd
        obtain ⟨d4, d5⟩ := hdd
        have hb := val_bd j (zs.take j) (by have := HZ.out; rw [List.length_take]; omega) HJ.out
        obtain ⟨b0, b1⟩ := hb
        have b2 := mx_small (k := j) (by omega)
        have b3 : val (zs.take j) ≤ 1152921504606846975 := Int.le_trans b1 b2
        have d6 : ¬ d < 48 := by omega
        have d7 : ¬ 55 < d := by omega
        clear b1 b2 d2 d3
        go_wp2
        go_round
        case rel => exact ⟨j + 1, by omega, by go_num, by rw [HV.out]; rw [wrap_back _ (by omega) (by omega)], HJ'.out⟩
        case measure => simp [intOf]; omega
      · by_cases d6 : d < 48
        · clear hdd
          go_wp2
          go_ret2
          exact ⟨rfl, rfl⟩
        · have d7 : 55 < d := by omega
          clear hdd
          go_wp2
          go_ret2
          exact ⟨rfl, rfl⟩
    · obtain rfl : j = m := by omega
      have hne : ¬ d = 0 := fun e => HO.out ⟨HD.out.symm.trans e, HJ.out⟩
      have e2 : (j : Int) < (j : Int) + 1 := by omega
      go_wp2
      go_ret2
      exact ⟨rfl, rfl⟩

theorem rparse_in (a : Option Addr) (len cap : Nat) (zs : List Int) (w : World) (h : BytesIn w a zs) (hz : zs.length = len) (hm : len ≤ maxLen) :
    Calls Tryd.prog 31 #[.slice a len cap] w fun e w' => e = .returned (.tuple #[.int .i64 (pzV zs), .int .i64 (pzE zs)]) ∧ w = w' := by
  subst hz
  by_cases h1 : zs.length < 2 ∨ 22 < zs.length
  · unfold pzV pzE; rw [if_pos h1, if_pos h1]; exact rparse_len a _ cap w h1 hm
  · rcases h with h | ⟨b, off, rfl, _, hr⟩
    · rw [h] at h1; simp at h1
    · unfold pzV pzE; rw [if_neg h1, if_neg h1]
      obtain ⟨m, hm'⟩ : ∃ m, zs.length = m + 1 := ⟨zs.length - 1, by omega⟩
      by_cases h2 : pzOk zs
      · rw [if_pos h2, if_pos h2, hm']
        obtain ⟨h3, h4⟩ := h2
        rw [hm'] at h3 h4
        exact rparse_ok b off m cap zs w hm' (by omega) (by omega) hr h3 h4
      · rw [if_neg h2, if_neg h2, hm']
        exact rparse_bad b off m cap zs w hm' (by omega) (by omega) hr (fun h4 => h2 (by unfold pzOk; rw [hm']; exact h4))

end Go.Proofs.YtbgmhdhfcckbbaaDoor.Oct
