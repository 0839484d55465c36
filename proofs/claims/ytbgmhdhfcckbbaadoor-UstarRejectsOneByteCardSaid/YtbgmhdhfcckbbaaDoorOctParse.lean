/-
  Walks of octal.Parse.
-/
import Derived.Test.YtbgmhdhfcckbbaaDoorOctSmall
namespace Go.Proofs.YtbgmhdhfcckbbaaDoor.Oct
open Go.RowKit

set_option maxHeartbeats 400000 in
theorem parse_len (a : Option Addr) (len cap : Nat) (w : World) (h : len < 2 ∨ 22 < len) (hm : len ≤ maxLen) :
    Calls Tryd.prog 71 #[.slice a len cap] w fun e w' => e = .returned (.tuple #[.int .i64 0, .int .i64 2]) ∧ w = w' := by
  unfold maxLen at hm
  have hv := vwB_false (n := (len : Int)) (by omega)
  clear h
  go_enter Tryd.func71, Tryd.ntmps71
  go_wp2_with (go_at_call 73; refine (valid_any _ _).mono ?_; rintro e w' ⟨rfl, rfl⟩)
  go_ret2
  exact ⟨rfl, rfl⟩

set_option maxHeartbeats 400000 in
theorem parse_last (b off m cap : Nat) (zs : List Int) (w : World) (hz : zs.length = m + 1) (h1 : 1 ≤ m) (h2 : m ≤ 21) (hr : RowAt w b off zs) (hl : zs.getD m 0 ≠ 0) :
    Calls Tryd.prog 71 #[.slice (some ⟨b, off, none⟩) (m + 1) cap] w fun e w' => e = .returned (.tuple #[.int .i64 0, .int .i64 6]) ∧ w = w' := by
  have hv := vwB_true (n := (m : Int) + 1) (by omega) (by omega)
  obtain ⟨d, hd, d0, d1, hc⟩ := hr.get m (by omega)
  have hne : ¬ d = 0 := by rw [hd]; exact hl
  clear hd hl hr hz
  go_enter Tryd.func71, Tryd.ntmps71
  go_wp2_with (go_at_call 73; refine (valid_any _ _).mono ?_; rintro e w' ⟨rfl, rfl⟩)
  go_ret2
  exact ⟨rfl, rfl⟩

set_option maxHeartbeats 400000 in
theorem parse_ok (b off m cap : Nat) (zs : List Int) (w : World) (hz : zs.length = m + 1) (h1 : 1 ≤ m) (h2 : m ≤ 21) (hr : RowAt w b off zs) (hl : zs.getD m 0 = 0) (ho : OctD (zs.take m)) :
    Calls Tryd.prog 71 #[.slice (some ⟨b, off, none⟩) (m + 1) cap] w fun e w' => e = .returned (.tuple #[.int .i64 (val (zs.take m)), .int .i64 0]) ∧ w = w' := by
  have hv := vwB_true (n := (m : Int) + 1) (by omega) (by omega)
  obtain ⟨d, hd, d0, d1, hc⟩ := hr.get m (by omega)
  obtain rfl : d = 0 := hd.trans hl
  have HR := Lib.hid hr
  have HO := Lib.hid ho
  have HZ := Lib.hid hz
  clear hd hl hr hz ho
  go_enter Tryd.func71, Tryd.ntmps71
  go_wp2_with (go_at_call 73; refine (valid_any _ _).mono ?_; rintro e w' ⟨rfl, rfl⟩)
  go_loop [5, 20] (fun t i => ∃ j : Nat, j ≤ m ∧ i = .int .i64 j ∧ t = .int .i64 (val (zs.take j))) (fun _ i => m - (intOf i).toNat)
  case atStart => exact ⟨0, Nat.zero_le _, rfl, rfl⟩
  case round =>
    obtain ⟨j, hj, rfl, rfl⟩ := hrel
    by_cases hlt : j < m
    · obtain ⟨d, hd, d2, d3, hcj⟩ := HR.out.get j (by have := HZ.out; omega)
      have HV : Hid (val (zs.take (j + 1)) = val (zs.take j) * 8 + (d - 48)) := by
        show _ = _; rw [take_snoc (by have := HZ.out; omega), val_snoc, hd]
      have hdd : 48 ≤ d ∧ d ≤ 55 := by
        apply HO.out; rw [hd, List.mem_take_iff_getElem]
        have := HZ.out
        exact ⟨j, by omega, by simp [List.getD_eq_getElem?_getD, show j < zs.length by omega]⟩
      obtain ⟨d4, d5⟩ := hdd
      have hod : odB d = true := by unfold odB; simp [d4, d5]
      have hb := val_bd j (zs.take j) (by have := HZ.out; rw [List.length_take]; omega) (fun x hx => HO.out x (by
        rw [List.mem_take_iff_getElem] at hx ⊢
        obtain ⟨i, hi, rfl⟩ := hx
        exact ⟨i, by omega, rfl⟩))
      obtain ⟨b0, b1⟩ := hb
      have b2 := mx_small (k := j) (by omega)
      have b3 : val (zs.take j) ≤ 1152921504606846975 := Int.le_trans b1 b2
      clear b1 b2 hd d2 d3
      go_wp2_with (go_at_call 80; refine (digit_any _ _).mono ?_; rintro e w' ⟨rfl, rfl⟩)
      go_round
      case rel => exact ⟨j + 1, by omega, by go_num, by rw [HV.out]⟩
      case measure => simp [intOf]; omega
    · obtain rfl : j = m := by omega
      go_wp2
      go_ret2
      exact ⟨rfl, rfl⟩

set_option maxHeartbeats 400000 in
theorem parse_digit (b off m cap : Nat) (zs : List Int) (w : World) (hz : zs.length = m + 1) (h1 : 1 ≤ m) (h2 : m ≤ 21) (hr : RowAt w b off zs) (hl : zs.getD m 0 = 0) (ho : ¬ OctD (zs.take m)) :
    Calls Tryd.prog 71 #[.slice (some ⟨b, off, none⟩) (m + 1) cap] w fun e w' => e = .returned (.tuple #[.int .i64 0, .int .i64 6]) ∧ w = w' := by
  have hv := vwB_true (n := (m : Int) + 1) (by omega) (by omega)
  obtain ⟨d, hd, d0, d1, hc⟩ := hr.get m (by omega)
  obtain rfl : d = 0 := hd.trans hl
  have HR := Lib.hid hr
  have HO := Lib.hid ho
  have HZ := Lib.hid hz
  clear hd hl hr hz ho
  go_enter Tryd.func71, Tryd.ntmps71
  go_wp2_with (go_at_call 73; refine (valid_any _ _).mono ?_; rintro e w' ⟨rfl, rfl⟩)
  go_loop [5, 20] (fun t i => ∃ j : Nat, j ≤ m ∧ i = .int .i64 j ∧ t = .int .i64 (val (zs.take j)) ∧ OctD (zs.take j)) (fun _ i => m - (intOf i).toNat)
  case atStart => exact ⟨0, Nat.zero_le _, rfl, rfl, fun x hx => by simp at hx⟩
  case round =>
    obtain ⟨j, hj, rfl, rfl, hoj⟩ := hrel
    have HJ := Lib.hid hoj; clear hoj
    by_cases hlt : j < m
    · obtain ⟨d, hd, d2, d3, hcj⟩ := HR.out.get j (by have := HZ.out; omega)
      have HD := Lib.hid hd; clear hd
      by_cases hdd : 48 ≤ d ∧ d ≤ 55
      · have HV : Hid (val (zs.take (j + 1)) = val (zs.take j) * 8 + (d - 48)) := by
          show _ = _; rw [take_snoc (by have := HZ.out; omega), val_snoc, HD.out]
        have HJ' : Hid (OctD (zs.take (j + 1))) := by
          show OctD _
          rw [take_snoc (by have := HZ.out; omega), ← HD.out]
          intro x hx
          rcases List.mem_append.1 hx with hx | hx
          · exact HJ.out x hx
          · obtain rfl : x = d := by simpa using hx
            exact hdd
        obtain ⟨d4, d5⟩ := hdd
        have hod : odB d = true := by unfold odB; simp [d4, d5]
        have hb := val_bd j (zs.take j) (by have := HZ.out; rw [List.length_take]; omega) HJ.out
        obtain ⟨b0, b1⟩ := hb
        have b2 := mx_small (k := j) (by omega)
        have b3 : val (zs.take j) ≤ 1152921504606846975 := Int.le_trans b1 b2
        clear b1 b2 d2 d3
        go_wp2_with (go_at_call 80; refine (digit_any _ _).mono ?_; rintro e w' ⟨rfl, rfl⟩)
        go_round
        case rel => exact ⟨j + 1, by omega, by go_num, by rw [HV.out], HJ'.out⟩
        case measure => simp [intOf]; omega
      · have hod : odB d = false := by unfold odB; simp; omega
        clear hdd
        go_wp2_with (go_at_call 80; refine (digit_any _ _).mono ?_; rintro e w' ⟨rfl, rfl⟩)
        go_ret2
        exact ⟨rfl, rfl⟩
    · obtain rfl : j = m := by omega
      exact absurd HJ.out HO.out

theorem parse_in (a : Option Addr) (len cap : Nat) (zs : List Int) (w : World) (h : BytesIn w a zs) (hz : zs.length = len) (hm : len ≤ maxLen) :
    Calls Tryd.prog 71 #[.slice a len cap] w fun e w' => e = .returned (.tuple #[.int .i64 (pzV zs), .int .i64 (pzE zs)]) ∧ w = w' := by
  subst hz
  by_cases h1 : zs.length < 2 ∨ 22 < zs.length
  · unfold pzV pzE; rw [if_pos h1, if_pos h1]; exact parse_len a _ cap w h1 hm
  · rcases h with h | ⟨b, off, rfl, _, hr⟩
    · rw [h] at h1; simp at h1
    · unfold pzV pzE; rw [if_neg h1, if_neg h1]
      obtain ⟨m, hm'⟩ : ∃ m, zs.length = m + 1 := ⟨zs.length - 1, by omega⟩
      by_cases h2 : pzOk zs
      · rw [if_pos h2, if_pos h2, hm']
        obtain ⟨h3, h4⟩ := h2
        rw [hm'] at h3 h4
        exact parse_ok b off m cap zs w hm' (by omega) (by omega) hr h3 h4
      · rw [if_neg h2, if_neg h2, hm']
        by_cases h3 : zs.getD m 0 = 0
        · exact parse_digit b off m cap zs w hm' (by omega) (by omega) hr h3 (fun h4 => h2 (by unfold pzOk; rw [hm']; exact ⟨h3, h4⟩))
        · exact parse_last b off m cap zs w hm' (by omega) (by omega) hr h3
end Go.Proofs.YtbgmhdhfcckbbaaDoor.Oct
