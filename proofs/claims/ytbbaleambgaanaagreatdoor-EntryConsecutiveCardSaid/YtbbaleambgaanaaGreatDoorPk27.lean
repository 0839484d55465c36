/-
  Layer 12: the reference's IsZero.
-/
import Derived.Test.YtbbaleambgaanaaGreatDoorPk06
import Derived.Test.YtbbaleambgaanaaGreatDoorPk05
import Derived.Test.YtbbaleambgaanaaGreatDoorPk19
namespace Go.Proofs.YtbbaleambgaanaaGreatDoor.Etr
open Go.RowKit Go.Proofs.YtbbaleambgaanaaGreatDoor.Fit Pxr Pnm

theorem zeroB_iff {zs : List Int} : zeroB zs ↔ ∀ x, x < zs.length → zs.getD x 0 = 0 := by
  unfold zeroB
  constructor
  · intro h x hx
    rw [List.getD_eq_getElem?_getD, List.getElem?_eq_getElem hx]
    exact h _ (List.getElem_mem hx)
  · intro h z hz
    obtain ⟨x, hx, rfl⟩ := List.mem_iff_getElem.1 hz
    have := h x hx
    rw [List.getD_eq_getElem?_getD, List.getElem?_eq_getElem hx] at this
    exact this

set_option maxHeartbeats 1000000 in
theorem riszero_any (a : Option Addr) (n c : Nat) (zs : List Int) (w : World) (hb : BytesIn w a zs) (hl : zs.length = n) (hn : n ≤ 9223372036854775807) (b : Bool) (hbz : b = true ↔ zeroB zs) :
    Calls Tryz.prog 14 #[.slice a n c] w fun e w' => e = .returned (.bool b) ∧ w = w' := by
  have HI := Lib.hid hb.inK; have HL := Lib.hid hl; have HB := Lib.hid hbz
  have hn' : (n : Int) ≤ 9223372036854775807 := by omega
  clear hb hl hbz hn
  go_enter Tryz.func14, Tryz.ntmps14
  go_wp2_with fail
  go_loop [3] (fun i => ∃ j : Nat, j ≤ n ∧ i = .int .i64 j ∧ ∀ x, x < j → zs.getD x 0 = 0) (fun i => n - (intOf i).toNat)
  case atStart => exact ⟨0, Nat.zero_le _, rfl, fun x hx => absurd hx (Nat.not_lt_zero _)⟩
  case round =>
    obtain ⟨j, hj, rfl, hz⟩ := hrel
    have HZ := Lib.hid hz
    clear hz
    by_cases hlt : j < n
    · have hlt' : (j : Int) < n := by omega
      obtain ⟨bb, off, rfl, _⟩ := HI.out.plain (by rw [HL.out]; omega)
      obtain ⟨d, hd⟩ := named (zs.getD j 0)
      have hcell := HI.out.get j (by rw [HL.out]; exact hlt)
      rw [← hd.out] at hcell
      by_cases h0 : d = 0
      · have hne : (d != 0) = false := by rw [h0]; rfl
        have hd0 : Hid (zs.getD j 0 = 0) := by show _ = _; rw [← hd.out]; exact h0
        clear hd h0
        go_wp2_with fail
        go_round
        case rel =>
          refine ⟨j + 1, by omega, by go_num, fun x hx => ?_⟩
          rcases Nat.lt_or_ge x j with h | h
          · exact HZ.out x h
          · obtain rfl : x = j := by omega
            exact hd0.out
        case measure => simp [intOf]; omega
      · have hne : (d != 0) = true := by simp [h0]
        have hb0 : b = false := by
          cases hb1 : b with
          | false => rfl
          | true => exact absurd (hd.out.trans (zeroB_iff.1 (HB.out.1 hb1) j (by rw [HL.out]; exact hlt))) h0
        clear hd h0 HB
        subst hb0
        go_wp2_with fail
        go_ret
        exact ⟨rfl, rfl⟩
    · obtain rfl : n = j := by omega
      have hb0 : b = true := HB.out.2 (zeroB_iff.2 fun x hx => HZ.out x (by rw [← HL.out]; exact hx))
      clear HB
      subst hb0
      go_wp2_with fail
      go_ret
      exact ⟨rfl, rfl⟩
end Go.Proofs.YtbbaleambgaanaaGreatDoor.Etr
/-
  Layer 12: the program's IsZero.
-/
namespace Go.Proofs.YtbbaleambgaanaaGreatDoor.Etr
open Go.RowKit Go.Proofs.YtbbaleambgaanaaGreatDoor.Fit Pxr Pnm

theorem pnz_any (d : Int) (w : World) : Calls Tryz.prog 30 #[.int .u8 d] w fun e w' => e = .returned (.bool (d != 0)) ∧ w = w' := by
  go_enter Tryz.func30, Tryz.ntmps30
  go_wp2
  go_ret
  exact ⟨rfl, rfl⟩

set_option maxHeartbeats 1000000 in
theorem pixf_any (a : Option Addr) (n c : Nat) (P : List Int) (w : World) (hi : InK .u8 w a P) (hl : P.length = n) (hn : n ≤ 9223372036854775807) :
    Calls Tryz.prog 69 #[.slice a n c, .func (.func 30) #[] #[]] w fun e w' => e = .returned (.int .i64 (if nzI P < n then (nzI P : Int) else -1)) ∧ w = w' := by
  have HI := Lib.hid hi; have HL := Lib.hid hl
  have hn' : (n : Int) ≤ 9223372036854775807 := by omega
  obtain ⟨R, hR⟩ := named (if nzI P < n then (nzI P : Int) else -1)
  obtain ⟨k, hk⟩ := named (nzI P)
  rw [← hR.out]
  clear hi hl hn
  go_enter Tryz.func69, Tryz.ntmps69
  go_wp2_with fail
  go_loop [5, 8] (fun _ i => ∃ j : Nat, j ≤ k ∧ i = .int .i64 j) (fun _ i => n - (intOf i).toNat)
  case atStart => exact ⟨0, Nat.zero_le _, rfl⟩
  case round =>
    obtain ⟨j, hj, rfl⟩ := hrel
    have HJ := Lib.hid hj
    clear hj
    have hkn : k ≤ n := by rw [hk.out, ← HL.out]; exact nzI_le P
    by_cases hlt : j < n
    · have hlt' : (j : Int) < n := by omega
      obtain ⟨b, off, rfl, _⟩ := HI.out.plain (by rw [HL.out]; omega)
      obtain ⟨d, hd⟩ := named (P.getD j 0)
      have hcell := HI.out.get j (by rw [HL.out]; exact hlt)
      rw [← hd.out] at hcell
      by_cases hjk : j < k
      · have hd0 : d = 0 := by rw [hd.out]; exact nzI_zero (by rw [← hk.out]; exact hjk)
        have hne : (d != 0) = false := by rw [hd0]; rfl
        clear hd hd0
        go_wp2_with fail
        refine (pnz_any d w).mono ?_; rintro e w1 ⟨rfl, rfl⟩
        rw [hne]
        go_wp2_with fail
        go_round
        case rel => exact ⟨j + 1, by omega, by go_num⟩
        case measure => simp [intOf]; omega
      · obtain rfl : j = k := by have := HJ.out; omega
        have hd0 : d ≠ 0 := by rw [hd.out, hk.out]; exact nzI_lt (by rw [← hk.out, HL.out]; omega)
        have hne : (d != 0) = true := by simp [hd0]
        have hR1 : R = j := by rw [hR.out, ← hk.out, if_pos hlt]
        clear hR hd hd0
        subst hR1
        go_wp2_with fail
        refine (pnz_any d w).mono ?_; rintro e w1 ⟨rfl, rfl⟩
        rw [hne]
        go_wp2_with fail
        go_ret
        exact ⟨rfl, rfl⟩
    · have hj : j = n := by have := HJ.out; omega
      have hR1 : R = -1 := by rw [hR.out, ← hk.out, if_neg (by have := HJ.out; omega)]
      clear hR
      subst hR1
      subst hj
      go_wp2_with fail
      go_ret
      exact ⟨rfl, rfl⟩

theorem zeroB_nz {zs : List Int} : zeroB zs ↔ ¬ nzI zs < zs.length := by
  constructor
  · intro h hl
    exact nzI_lt hl (zeroB_iff.1 h _ hl)
  · intro h
    exact zeroB_iff.2 fun x hx => nzI_zero (by have := nzI_le zs; omega)
set_option maxHeartbeats 1000000 in
theorem piszero_any (a : Option Addr) (n c : Nat) (zs : List Int) (w : World) (hb : InK .u8 w a zs) (hl : zs.length = n) (hn : n ≤ 9223372036854775807) (b : Bool) (hbz : b = true ↔ zeroB zs) :
    Calls Tryz.prog 13 #[.slice a n c] w fun e w' => e = .returned (.bool b) ∧ w = w' := by
  have IX := Lib.hid (pixf_any a n c zs w hb hl hn)
  by_cases h : nzI zs < n
  · obtain rfl : b = false := by
      cases b with
      | false => rfl
      | true => exact absurd (by rw [hl]; exact h) (zeroB_nz.1 (hbz.1 rfl))
    rw [if_pos h] at IX
    obtain ⟨k, hk⟩ := named (nzI zs)
    rw [← hk.out] at IX h
    have h0 : (0 : Int) ≤ k := by omega
    have hd : decide ((k : Int) ≥ 0) = true := by simp
    clear hb hl hn hbz hk h
    go_enter Tryz.func13, Tryz.ntmps13
    go_wp2_with fail
    go_enter Tryz.func29, Tryz.ntmps29
    go_wp2_with fail
    refine IX.out.mono ?_; rintro e w1 ⟨rfl, rfl⟩
    go_wp2_with fail
    go_ret
    go_wp2_with fail
  · obtain rfl : b = true := hbz.2 (zeroB_nz.2 (by rw [hl]; exact h))
    rw [if_neg h] at IX
    clear hb hl hn hbz h
    go_enter Tryz.func13, Tryz.ntmps13
    go_wp2_with fail
    go_enter Tryz.func29, Tryz.ntmps29
    go_wp2_with fail
    refine IX.out.mono ?_; rintro e w1 ⟨rfl, rfl⟩
    go_wp2_with fail
    go_ret
    go_wp2_with fail
end Go.Proofs.YtbbaleambgaanaaGreatDoor.Etr
