/- ChkRefS -/
import Derived.Test.YtbbaleambgaanaaGreatDoorQ11
import Derived.Test.YtbbaleambgaanaaGreatDoorQ9
namespace Go.Proofs.YtbbaleambgaanaaGreatDoor.Chk
open Go.RowKit
open Oct
theorem blank_at (zs : List Int) (j : Nat) (hl : zs.length = 512) : (blankZ zs).getD j 0 = if 148 ≤ j ∧ j < 156 then 32 else zs.getD j 0 := by
  unfold blankZ lay
  have ht : (zs.take 148).length = 148 := by rw [List.length_take, hl]; rfl
  have h8 := sp8_length
  simp only [List.getD_eq_getElem?_getD]
  by_cases h1 : j < 148
  · rw [List.getElem?_append_left (by omega), if_neg (by omega), List.getElem?_take, if_pos h1]
  · rw [List.getElem?_append_right (by omega), ht]
    by_cases h2 : j < 156
    · rw [List.getElem?_append_left (by omega), if_pos (by omega)]
      have : ∀ i, i < 8 → (sp8[i]?).getD 0 = 32 := by decide
      exact this _ (by omega)
    · rw [List.getElem?_append_right (by omega), if_neg (by omega), List.getElem?_drop, h8, show 148 + 8 + (j - 148 - 8) = j by omega]
set_option maxHeartbeats 1000000 in
theorem rsum_ok (a : Option Addr) (cap : Nat) (zs : List Int) (w : World) (hl : zs.length = 512) (hb : BytesIn w a zs) :
    Calls Tryz.prog 126 #[.slice a 512 cap] w fun e w' => e = .returned (.tuple #[.int .i64 (sumZ zs), .int .i64 0]) ∧ w = w' := by
  obtain ⟨b, off, rfl, _, hr⟩ : ∃ b off, a = some ⟨b, off, none⟩ ∧ b < w.heap.size ∧ RowAt w b off zs := by
    rcases hb with hb | hb
    · rw [hb] at hl; cases hl
    · exact hb
  have hbb : Bytes zs := hr.2
  have BD := Lib.hid (take_sum_bd (blank_bytes hbb))
  have HN := Lib.hid (blank_length hl)
  have HA := Lib.hid (fun j => blank_at zs j hl)
  have HL := Lib.hid hl
  have HR := Lib.hid hr
  clear hl hb hr hbb
  go_enter Tryz.func126, Tryz.ntmps126
  go_wp2
  go_loop [4, 5] (fun n i => ∃ j : Nat, j ≤ 512 ∧ i = .int .i64 j ∧ n = .int .i64 ((blankZ zs).take j).sum) (fun _ i => 512 - (intOf i).toNat)
  case atStart => exact ⟨0, Nat.zero_le _, rfl, rfl⟩
  case round =>
    obtain ⟨j, hj, rfl, rfl⟩ := hrel
    obtain ⟨d0, d1⟩ := BD.out j
    by_cases hlt : j < 512
    · obtain ⟨c, hc, c0, c1, hcj⟩ := HR.out.get j (by rw [HL.out]; exact hlt)
      have HC := Lib.hid hc; clear hc
      obtain ⟨S, hS⟩ := named ((blankZ zs).take j).sum
      rw [← hS.out] at d0 d1 ⊢
      have hlt' : (j : Int) < 512 := by omega
      by_cases h1 : 148 ≤ j
      · have h1' : (148 : Int) ≤ j := by omega
        by_cases h2 : j < 156
        · have h2' : (j : Int) < 156 := by omega
          have HS : Hid (((blankZ zs).take (j + 1)).sum = S + 32) := by
            show _ = _; rw [sum_take_succ (by rw [HN.out]; exact hlt), hS.out, HA.out, if_pos ⟨h1, h2⟩]
          go_wp2
          go_round
          case rel => exact ⟨j + 1, by omega, by go_num, by rw [HS.out]⟩
          case measure => simp [intOf]; omega
        · have h2' : ¬ (j : Int) < 156 := by omega
          have HS : Hid (((blankZ zs).take (j + 1)).sum = S + c) := by
            show _ = _; rw [sum_take_succ (by rw [HN.out]; exact hlt), hS.out, HA.out, if_neg (by omega), HC.out]
          go_wp2
          go_round
          case rel => exact ⟨j + 1, by omega, by go_num, by rw [HS.out]⟩
          case measure => simp [intOf]; omega
      · have h1' : ¬ (148 : Int) ≤ j := by omega
        have HS : Hid (((blankZ zs).take (j + 1)).sum = S + c) := by
          show _ = _; rw [sum_take_succ (by rw [HN.out]; exact hlt), hS.out, HA.out, if_neg (by omega), HC.out]
        go_wp2
        go_round
        case rel => exact ⟨j + 1, by omega, by go_num, by rw [HS.out]⟩
        case measure => simp [intOf]; omega
    · obtain rfl : j = 512 := by omega
      go_wp2
      go_ret2
      exact ⟨by rw [List.take_of_length_le (by rw [HN.out]; exact Nat.le_refl _)]; rfl, rfl⟩
set_option maxHeartbeats 1000000 in
theorem rseal_okB (a : Option Addr) (cap : Nat) (zs : List Int) (w : World) (hl : zs.length = 512) (hb : BytesIn w a zs) (hc : 512 ≤ cap) :
    Calls Tryz.prog 68 #[.slice a 512 cap] w (RetB (sealZ zs) 512 0 w) := by
  obtain ⟨b, off, rfl, hlt, hr⟩ : ∃ b off, a = some ⟨b, off, none⟩ ∧ b < w.heap.size ∧ RowAt w b off zs := by
    rcases hb with hb | hb
    · rw [hb] at hl; cases hl
    · exact hb
  have hz : Bytes zs := hr.2
  have HL := Lib.hid hl; clear hl
  have HB := Lib.hid hb; clear hb
  have HR := Lib.hid hr; clear hr
  have HZ := Lib.hid hz; clear hz
  have HLT := Lib.hid hlt; clear hlt
  obtain ⟨i0, HI⟩ := info_u8 Tryz.info5
  have HT := Lib.hid hdrT
  have c1 : ¬ cap = 0 := by omega
  have c2 : ¬ cap = 156 := by omega
  have c3 : ¬ cap < 148 := by omega
  have c4 : 148 ≤ cap := by omega
  go_enter Tryz.func68, Tryz.ntmps68
  go_wp2_with fail
  refine (rsum_ok _ cap zs _ HL.out HB.out).mono ?_; rintro e w1 ⟨rfl, rfl⟩
  obtain ⟨n, hn⟩ := named (sumZ zs)
  have FN : Hid (0 ≤ n ∧ n ≤ mx 6) := by show _ ∧ _; rw [hn.out]; exact sumZ_fits HZ.out HL.out
  rw [← hn.out]
  go_wp2_with fail
  refine (rfmt_ok n 7 6 _ (by decide) (by decide) (by decide) FN.out.1 FN.out.2).mono ?_; rintro e w1 ⟨b1, cp1, rfl, hrow1, hlt1, hb1⟩
  have R1 := Lib.hid hrow1; have B1 := Lib.hid hb1; have L1 := Lib.hid hlt1; clear hrow1 hb1 hlt1
  have Z1 := Lib.hid B1.out.size
  have D1 : Hid (BytesIn w1 (some ⟨b1, 0, none⟩) (fld 6 n)) := .of_row R1.out L1.out
  have X1 : Hid (BytesIn w1 (some ⟨b, off, none⟩) (zs.take 148)) := .inr ⟨b, off, rfl, Nat.lt_of_lt_of_le HLT.out Z1.out, (HR.out.below B1.out HLT.out).take 148⟩
  have Y1 : Hid (BytesIn w1 (some ⟨b, off + 156, none⟩) (zs.drop 156)) := .inr ⟨b, off + 156, rfl, Nat.lt_of_lt_of_le HLT.out Z1.out, (HR.out.below B1.out HLT.out).drop 156⟩
  go_wp2_with (first | (refine wpList_lit_none rfl 24 5 rfl Tryz.underlying24 HT.out.elem ?_; intro w2 h2 b2; have O2 := Lib.hid h2; have B2 := Lib.hid b2; clear h2 b2; have Z2 := Lib.hid B2.out.size) | (at_builtin; refine wpList_append_in rfl _ _ 24 rfl w1.heap.size 5 i0 Tryz.underlying24 HI (.slice (some ⟨w1.heap.size, 0, none⟩) 0 0) 0 [] rfl O2.out (some ⟨b, off, none⟩) 148 cap (zs.take 148) rfl (X1.out.below B2.out) (by rw [List.length_take, HL.out]; rfl) (by decide) Z2.out ?_; intro v3 w3 h3 b3; have O3 := Lib.hid h3; have B3 := Lib.hid (B2.out.trans b3); clear h3 b3; have Z3 := Lib.hid B3.out.size) | (at_builtin; refine wpList_append_in rfl _ _ 24 rfl w1.heap.size 5 i0 Tryz.underlying24 HI v3 _ _ rfl O3.out (some ⟨b1, 0, none⟩) 7 cp1 (fld 6 n) rfl (D1.out.below B3.out) (fld_length _ _) (by decide) Z3.out ?_; intro v4 w4 h4 b4; have O4 := Lib.hid h4; have B4 := Lib.hid (B3.out.trans b4); clear h4 b4; have Z4 := Lib.hid B4.out.size) | (refine wpList_lit_one rfl 24 5 _ rfl Tryz.underlying24 Tryz.info5 32 rfl (by decide) ?_; intro w5 h5 b5; have A5 := Lib.hid h5; have O5 := Lib.hid (own_keep O4.out b5 (Nat.le_refl _)); have B5 := Lib.hid (B4.out.trans (b5.mono Z4.out)); clear h5 b5; have Z5 := Lib.hid B5.out.size) | (at_builtin; refine wpList_append_in rfl _ _ 24 rfl w1.heap.size 5 i0 Tryz.underlying24 HI v4 _ _ rfl O5.out (some ⟨w4.heap.size, 0, none⟩) 1 1 [32] rfl A5.out.bytes rfl (by decide) Z5.out ?_; intro v6 w6 h6 b6; have O6 := Lib.hid h6; have B6 := Lib.hid (B5.out.trans b6); clear h6 b6; have Z6 := Lib.hid B6.out.size) | (at_builtin; refine wpList_append_in rfl _ _ 24 rfl w1.heap.size 5 i0 Tryz.underlying24 HI v6 _ _ rfl O6.out (some ⟨b, off + 156, none⟩) 356 (cap - 156) (zs.drop 156) rfl (Y1.out.below B6.out) (by rw [List.length_drop, HL.out]) (by decide) Z6.out ?_; intro v7 w7 h7 b7; have O7 := Lib.hid h7; have B7 := Lib.hid (B6.out.trans b7); clear h7 b7))
  have hz : [] ++ zs.take 148 ++ fld 6 n ++ [32] ++ zs.drop 156 = sealZ zs := by
    rw [hn.out]; unfold sealZ lay fieldZ; simp [fld_length]
  have o7 := O7.out
  rw [hz] at o7
  obtain ⟨g, c, rfl, _, hg, hrow, hcc, hcm⟩ := own_form o7 (by decide) (seal_bytes HZ.out)
  have G7 := Lib.hid hg; have R7 := Lib.hid hrow; have C7 := Lib.hid hcc; have M7 := Lib.hid hcm
  clear o7 hrow hz hg hcc hcm
  go_ret2
  exact ⟨_, _, rfl, R7.out, G7.out, B1.out.trans (B7.out.mono Z1.out), C7.out, M7.out⟩
theorem rseal_ok (a : Option Addr) (cap : Nat) (zs : List Int) (w : World) (hl : zs.length = 512) (hb : BytesIn w a zs) (hc : 512 ≤ cap) :
    Calls Tryz.prog 68 #[.slice a 512 cap] w (RetBytes (sealZ zs) 512 0 w) := (rseal_okB a cap zs w hl hb hc).mono fun _ _ h => h.ret
theorem str_ne {xs ys : List Int} (hx : Bytes xs) (hy : Bytes ys) (h : ¬ xs = ys) : ¬ strOfNums xs = strOfNums ys := fun e => h (by
  rw [← numsOf_strOfNums hx, ← numsOf_strOfNums hy, e])
end Go.Proofs.YtbbaleambgaanaaGreatDoor.Chk
