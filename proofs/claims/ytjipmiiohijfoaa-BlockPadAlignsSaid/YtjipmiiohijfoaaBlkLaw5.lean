/-
  BlockPadAligns, walked.
-/
import Derived.Test.YtjipmiiohijfoaaBlkAlive
import Derived.Test.YtjipmiiohijfoaaArrArg
namespace Go.Proofs.Ytjipmiiohijfoaa
open Go.RowKit

theorem padN_mod (o : Nat) : padN o < 512 ∧ (o + padN o) % 512 = 0 := by unfold padN; omega
theorem padN_zero {o : Nat} (h : o % 512 = 0) : padN o = 0 := by unfold padN; omega
theorem take_zeros (n : Nat) : (zeros n).take n = zeros n := List.take_of_length_le (by rw [zeros_length]; exact Nat.le_refl _)
theorem zeros_at (n i : Nat) : (zeros n).getD i 0 = 0 := by
  unfold zeros
  rw [List.getD_eq_getElem?_getD, List.getElem?_replicate]
  split <;> rfl

set_option maxRecDepth 100000 in
set_option maxHeartbeats 8000000 in
theorem walk_BlockPadAligns (a : Option Addr) (len cap : Nat) (zs : List Int) (n : Int) (w : World) (hz : ArgInts .u8 w a len cap zs) (hn : (Lit.int .u8 n).wf = true) :
    Calls Try.prog 7 #[.slice a len cap, .int .u8 n] w fun e w' => e = .returned (.bool true) ∧ Below w.heap.size w w' := by
  have HB := Lib.hid hz.bytes; have HL := Lib.hid hz.1; have HC := Lib.hid hz.2.1
  have HA : Hid (∀ x, a = some x → zs = [] ∨ x.block < w.heap.size) := by
    intro x hx
    rcases hz.bytes with h | ⟨b', off', h1, h2, _⟩
    · exact .inl h
    · rw [h1] at hx; cases hx; exact .inr h2
  obtain ⟨n0, n1⟩ := bounds_u8 hn
  clear hz hn
  by_cases h3000 : (3000 : Int) < len
  · go_enter Try.func7, Try.ntmps7
    go_wp2_with fail
    refine (alive_any _).mono ?_; rintro e w2 ⟨rfl, b2⟩
    go_wp2
    go_ret
    exact ⟨rfl, b2⟩
  · obtain ⟨k, hk⟩ : ∃ k : Nat, n % 5 = k := ⟨(n % 5).toNat, by omega⟩
    have hk5 : k < 5 := by omega
    obtain ⟨B, hB⟩ : ∃ B : Nat, B = 512 * k + len := ⟨_, rfl⟩
    obtain ⟨P, hP⟩ := named (padN B)
    have HP : Hid (P < 512 ∧ (B + P) % 512 = 0) := by show _ ∧ _; rw [hP.out]; exact padN_mod B
    have hB9 : B ≤ 6000 := by omega
    have HBn := Lib.hid hB
    clear hB
    go_enter Try.func7, Try.ntmps7
    go_wp2_with fail
    refine (snk_new none 0 0 [] (-1) w (.inl rfl) rfl (by decide)).mono ?_; rintro e w1 ⟨m, rfl, s1, b1⟩
    have S1 := Lib.hid s1; have B1 := Lib.hid b1
    clear s1 b1
    go_wp2_with fail
    refine (wtr_new w1 S1.out).mono ?_; rintro e w2 ⟨q, rfl, s2, b2⟩
    have HS2 : Hid (∀ k, Grow (fun k => w.heap.size ≤ k ∧ k < w1.heap.size) w1 w2 k → w.heap.size ≤ k) := fun k hk => hk.elim (fun h => h.1) (fun h => Nat.le_trans B1.out.size h.1)
    obtain ⟨S, hS⟩ := named (Grow (fun k => w.heap.size ≤ k ∧ k < w1.heap.size) w1 w2)
    rw [← hS.out] at s2 HS2
    have W2 := Lib.hid s2; have B2 := Lib.hid (B1.out.trans (b2.mono B1.out.size))
    clear s2 b2 S1
    go_wp2_with fail
    refine (wtr_zeros k w2 W2.out (by omega) (by decide) (by decide)).mono ?_; rintro e w3 ⟨rfl, s3, o3⟩
    obtain ⟨k1, k2⟩ := ww_neg (F := -1) (by decide) ([] : List Int).length (512 * k)
    rw [k1, k2, take_zeros, List.nil_append, Nat.zero_add] at s3
    rw [k2]
    have HS3 : Hid (∀ k, Grow S w2 w3 k → w.heap.size ≤ k) := fun k hk => hk.elim (HS2.out k) (fun h => Nat.le_trans B2.out.size h.1)
    have W3 := Lib.hid s3; have B3 := Lib.hid (B2.out.trans (o3.below (B := w.heap.size) HS2.out B2.out.size))
    clear s3 o3 k1 k2
    go_wp2_with fail
    refine (wtr_write a len cap zs w3 W3.out (HB.out.block B3.out.size (fun _ _ h => B3.out.block _ h)) HL.out HC.out (by rw [zeros_length]; omega) (by decide) (fun x hx => (HA.out x hx).imp id fun h hs => by have := HS3.out _ hs; omega)).mono ?_; rintro e w4 ⟨rfl, s4, o4⟩
    obtain ⟨k1, k2⟩ := ww_neg (F := -1) (by decide) (zeros (512 * k)).length len
    have et : zs.take len = zs := List.take_of_length_le (by rw [HL.out]; exact Nat.le_refl _)
    rw [k1, k2, et, ← HBn.out] at s4
    rw [k2]
    have HS4 : Hid (∀ k, Grow (Grow S w2 w3) w3 w4 k → w.heap.size ≤ k) := fun k hk => hk.elim (HS3.out k) (fun h => Nat.le_trans B3.out.size h.1)
    have W4 := Lib.hid s4; have B4 := Lib.hid (B3.out.trans (o4.below (B := w.heap.size) HS3.out B3.out.size))
    clear s4 o4 k1 k2 et W3 W2
    obtain ⟨Y, hY⟩ := named (zeros (512 * k) ++ zs)
    rw [← hY.out] at W4
    have YL : Hid (Y.length = B) := by show _ = _; rw [hY.out, List.length_append, zeros_length, HL.out, HBn.out]
    have hBi : 512 * (k : Int) + len = (B : Int) := by have := HBn.out; omega
    go_wp2_with fail
    refine (wtr_off w4 W4.out).mono ?_; rintro e w5 ⟨rfl, rfl⟩
    go_wp2_with fail
    refine (wtr_pad w4 W4.out (by rw [YL.out]; omega) (by decide)).mono ?_; rintro e w5 ⟨rfl, s5, o5⟩
    obtain ⟨k1, k2⟩ := ww_neg (F := -1) (by decide) Y.length P
    rw [← hP.out, k1, k2, take_zeros] at s5
    rw [← hP.out, k2]
    have HS5 : Hid (∀ k, Grow (Grow (Grow S w2 w3) w3 w4) w4 w5 k → w.heap.size ≤ k) := fun k hk => hk.elim (HS4.out k) (fun h => Nat.le_trans B4.out.size h.1)
    obtain ⟨S5, hS5⟩ := named (Grow (Grow (Grow S w2 w3) w3 w4) w4 w5)
    rw [← hS5.out] at s5 HS5
    have W5 := Lib.hid s5; have B5 := Lib.hid (B4.out.trans (o5.below (B := w.heap.size) HS4.out B4.out.size))
    clear s5 o5 k1 k2 W4
    go_wp2_with fail
    refine (wtr_off w5 W5.out).mono ?_; rintro e w6 ⟨rfl, rfl⟩
    obtain ⟨S', cs', r', hs', _, _⟩ := W5.out.sink
    have SS := Lib.hid hs'
    clear hs'
    go_wp2_with fail
    refine (sbytes_any w5 SS.out).mono ?_; rintro e w6 ⟨v6, rfl, ow6, b6⟩
    have YZL : Hid ((Y ++ zeros P).length = B + P) := by show _ = _; rw [List.length_append, YL.out, zeros_length]
    rw [YZL.out] at ow6
    obtain ⟨xa, xc, rfl, xi, xc1, _, _, _⟩ := own_any ow6
    have OX := Lib.hid ow6
    have XI := Lib.hid xi; have XC := Lib.hid xc1
    have W6 := Lib.hid (W5.out.below b6); have B6 := Lib.hid (B5.out.trans (b6.mono B5.out.size))
    clear ow6 b6 xi xc1
    have hm1 : ((B : Int) + P) % 512 = 0 := by have := HP.out.2; omega
    have hp1 : (P : Int) < 512 := by have := HP.out.1; omega
    have hx1 : B ≤ xc := by have := XC.out; omega
    have hx2 : (B : Int) ≤ xc := by omega
    by_cases h0 : B + P = 0
    · have hB0 : B = 0 := by omega
      have hP0 : P = 0 := by omega
      go_wp2_with fail
      go_loop [11, 84] (fun _ i => i = .int .i64 0) (fun _ i => 0)
      case atStart => rfl
      case round =>
        obtain rfl := hrel
        go_wp2_with fail
        refine (alive_any w6).mono ?_; rintro e w7 ⟨rfl, b7⟩
        have B7 := Lib.hid (B6.out.trans (b7.mono B6.out.size))
        have W7 := Lib.hid (W6.out.below b7)
        clear b7
        go_wp2_with fail
        refine (wtr_pad w7 W7.out (by rw [YZL.out]; have := HP.out.1; omega) (by decide)).mono ?_; rintro e w8 ⟨rfl, s8, o8⟩
        have hp0 : padN (B + P) = 0 := padN_zero HP.out.2
        obtain ⟨k1, k2⟩ := ww_neg (F := -1) (by decide) (Y ++ zeros P).length 0
        rw [hp0, k1, k2] at s8
        rw [hp0, k2]
        have W8 := Lib.hid s8
        have B8 := Lib.hid (B7.out.trans (o8.below (B := w.heap.size) HS5.out B7.out.size))
        clear s8 o8 hp0 k1 k2
        go_wp2_with fail
        refine (wtr_off w8 W8.out).mono ?_; rintro e w9 ⟨rfl, rfl⟩
        go_wp2_with fail
        go_ret
        exact ⟨rfl, B8.out⟩
    · by_cases hcb : xc = B
      · have hP0 : P = 0 := by have := XC.out; omega
        go_wp2_with fail
        go_loop [11, 84] (fun _ i => i = .int .i64 0) (fun _ i => 0)
        case atStart => rfl
        case round =>
          obtain rfl := hrel
          go_wp2_with fail
          refine (alive_any w6).mono ?_; rintro e w7 ⟨rfl, b7⟩
          have B7 := Lib.hid (B6.out.trans (b7.mono B6.out.size))
          have W7 := Lib.hid (W6.out.below b7)
          clear b7
          go_wp2_with fail
          refine (wtr_pad w7 W7.out (by rw [YZL.out]; have := HP.out.1; omega) (by decide)).mono ?_; rintro e w8 ⟨rfl, s8, o8⟩
          have hp0 : padN (B + P) = 0 := padN_zero HP.out.2
          obtain ⟨k1, k2⟩ := ww_neg (F := -1) (by decide) (Y ++ zeros P).length 0
          rw [hp0, k1, k2] at s8
          rw [hp0, k2]
          have W8 := Lib.hid s8
          have B8 := Lib.hid (B7.out.trans (o8.below (B := w.heap.size) HS5.out B7.out.size))
          clear s8 o8 hp0 k1 k2
          go_wp2_with fail
          refine (wtr_off w8 W8.out).mono ?_; rintro e w9 ⟨rfl, rfl⟩
          go_wp2_with fail
          go_ret
          exact ⟨rfl, B8.out⟩
      · skip
        obtain ⟨g, xc', hv, _⟩ := own_shape OX.out (by omega)
        simp only [Value.slice.injEq, true_and] at hv
        obtain ⟨rfl, rfl⟩ := hv
        have XR : Hid (∀ j, j < P → w6.cell? ⟨g, B + j, none⟩ = some (.int .u8 0)) := by
          intro j hj
          have h := XI.out.get (B + j) (by rw [YZL.out]; omega)
          rw [Nat.zero_add, List.getD_eq_getElem?_getD, List.getElem?_append_right (by rw [YL.out]; omega), YL.out, Nat.add_sub_cancel_left, ← List.getD_eq_getElem?_getD, zeros_at] at h
          exact h
        go_wp2_with fail
        go_loop [11, 84] (fun _ i => ∃ j : Nat, j ≤ P ∧ i = .int .i64 j) (fun _ i => P - (intOf i).toNat)
        case atStart => exact ⟨0, Nat.zero_le _, rfl⟩
        case round =>
          obtain ⟨j, hj, rfl⟩ := hrel
          by_cases hlt : j < P
          · have hlt' : (j : Int) < P := by omega
            have hcell := XR.out j hlt
            go_wp2_with fail
            go_round
            case rel => exact ⟨j + 1, by omega, by go_num⟩
            case measure => simp [intOf]; omega
          · obtain rfl : P = j := by omega
            go_wp2_with fail
            refine (alive_any w6).mono ?_; rintro e w7 ⟨rfl, b7⟩
            have B7 := Lib.hid (B6.out.trans (b7.mono B6.out.size))
            have W7 := Lib.hid (W6.out.below b7)
            clear b7
            go_wp2_with fail
            refine (wtr_pad w7 W7.out (by rw [YZL.out]; have := HP.out.1; omega) (by decide)).mono ?_; rintro e w8 ⟨rfl, s8, o8⟩
            have hp0 : padN (B + P) = 0 := padN_zero HP.out.2
            obtain ⟨k1, k2⟩ := ww_neg (F := -1) (by decide) (Y ++ zeros P).length 0
            rw [hp0, k1, k2] at s8
            rw [hp0, k2]
            have W8 := Lib.hid s8
            have B8 := Lib.hid (B7.out.trans (o8.below (B := w.heap.size) HS5.out B7.out.size))
            clear s8 o8 hp0 k1 k2
            go_wp2_with fail
            refine (wtr_off w8 W8.out).mono ?_; rintro e w9 ⟨rfl, rfl⟩
            go_wp2_with fail
            go_ret
            exact ⟨rfl, B8.out⟩
end Go.Proofs.Ytjipmiiohijfoaa
