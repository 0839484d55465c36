/-
  BlockErrorsAreSticky, walked.
-/
import Derived.Test.YtjipmiiohijfoaaBlkAlive
import Derived.Test.YtjipmiiohijfoaaStructArg
namespace Go.Proofs.Ytjipmiiohijfoaa
open Go.RowKit

set_option maxRecDepth 100000 in
set_option maxHeartbeats 8000000 in
theorem walk_BlockErrorsAreSticky (a : Option Addr) (len cap : Nat) (zs : List Int) (ca : Option Addr) (cl cc : Nat) (cs : List Int) (F : Int) (n : Int) (w : World) (hz : ArgInts .u8 w a len cap zs) (hc : ArgInts .i64 w ca cl cc cs) (_ : (Lit.int .i64 F).wf = true) (hn : (Lit.int .u8 n).wf = true) :
    Calls Try.prog 8 #[.slice a len cap, .agg #[.slice ca cl cc, .int .i64 F], .int .u8 n] w fun e w' => e = .returned (.bool true) ∧ Below w.heap.size w w' := by
  have HB := Lib.hid hz.bytes; have HL := Lib.hid hz.1; have HC := Lib.hid hz.2.1; have HI := Lib.hid hc.inK; have HCL := Lib.hid hc.1
  obtain ⟨n0, n1⟩ := bounds_u8 hn
  clear hz hc hn
  by_cases h3000 : (3000 : Int) < len
  · go_enter Try.func8, Try.ntmps8
    go_wp2_with (first | (refine wpList_box_obj rfl 25 _ rfl [.slice ca cl cc, .int .i64 F] rfl ?_; intro w1 h1 b1; have H1 := Lib.hid h1; have B1 := Lib.hid b1; have c0 := h1.get 0 rfl; have c1 := h1.get 1 rfl; clear h1 b1))
    refine (alive_any _).mono ?_; rintro e w2 ⟨rfl, b2⟩
    go_wp2
    go_ret
    exact ⟨rfl, B1.out.trans (b2.mono B1.out.size)⟩
  · by_cases h300 : (300 : Int) < cl
    · go_enter Try.func8, Try.ntmps8
      go_wp2_with (first | (refine wpList_box_obj rfl 25 _ rfl [.slice ca cl cc, .int .i64 F] rfl ?_; intro w1 h1 b1; have H1 := Lib.hid h1; have B1 := Lib.hid b1; have c0 := h1.get 0 rfl; have c1 := h1.get 1 rfl; clear h1 b1))
      refine (alive_any _).mono ?_; rintro e w2 ⟨rfl, b2⟩
      go_wp2
      go_ret
      exact ⟨rfl, B1.out.trans (b2.mono B1.out.size)⟩
    · obtain ⟨Z, hZ⟩ := named (zs.take (endN F len))
      obtain ⟨E, hE⟩ := named (endE F len)
      have ZL : Hid (Z.length = endN F len) := by show _ = _; rw [hZ.out, List.length_take, HL.out]; have := endN_le F len; omega
      have E4 : Hid (E = 11 ∨ E = 4) := by show _ ∨ _; rw [hE.out]; exact endE_ne _ _
      obtain ⟨zl, hzl⟩ := named Z.length
      have ZN : Hid (zl = endN F len ∧ zl ≤ len) := by show _ ∧ _; have := endN_le F len; have := ZL.out; have := hzl.out; omega
      obtain ⟨N, hN⟩ : ∃ N : Nat, (len : Int) / 512 + 2 = N := ⟨len / 512 + 2, by omega⟩
      have HN := Lib.hid hN
      obtain ⟨R, hR⟩ : ∃ R : Nat, n % 9 + 1 = R := ⟨(n % 9 + 1).toNat, by omega⟩
      have hR9 : R ≤ 9 := by omega
      go_enter Try.func8, Try.ntmps8
      go_wp2_with (first | (refine wpList_box_obj rfl 25 _ rfl [.slice ca cl cc, .int .i64 F] rfl ?_; intro w1 h1 b1; have H1 := Lib.hid h1; have B1 := Lib.hid b1; have c0 := h1.get 0 rfl; have c1 := h1.get 1 rfl; clear h1 b1))
      have K0 : Hid (∀ w', Below w1.heap.size w1 w' → w'.cell? ⟨w.heap.size, 1, none⟩ = some (.int .i64 F)) := fun w' hb => (H1.out.below hb H1.out.lt).get 1 rfl
      refine (new_any a len cap zs ca cl cc cs F w1 (HB.out.below B1.out) HL.out HC.out (by omega) (HI.out.below B1.out) HCL.out (by omega)).mono ?_; rintro e w2 ⟨s, rfl, s2, b2⟩
      rw [← hZ.out, ← hE.out] at s2
      have S2 := Lib.hid s2; have B2 := Lib.hid b2
      clear s2 b2
      go_wp2_with fail
      refine (rdr_new w2 S2.out).mono ?_; rintro e w3 ⟨q, rfl, r3, b3⟩
      have R3 := Lib.hid r3; have B3 := Lib.hid (B2.out.trans (b3.mono B2.out.size))
      clear r3 b3 c0 c1
      obtain ⟨lo, hlo⟩ := named w1.heap.size
      obtain ⟨hi, hhi⟩ := named w3.heap.size
      rw [← hlo.out, ← hhi.out] at R3
      go_wp2_with fail
      go_loopw [33] (fun i wr => ∃ j : Nat, i = .int .i64 j ∧ 512 * j ≤ zl ∧ Rdr wr lo hi q Z E (512 * j) 0 ∧ Below w1.heap.size w1 wr) (fun i _ => N - (intOf i).toNat)
      case atStart => exact ⟨0, rfl, Nat.zero_le _, R3.out, B3.out⟩
      case round =>
        obtain ⟨j, rfl, hj, hr, hbel⟩ := hrel
        have RR := Lib.hid hr; have BR := Lib.hid hbel
        clear hr hbel
        have hjN : j < N := by have := ZN.out.2; have := HN.out; omega
        have hjN' : (j : Int) < N := by omega
        by_cases hgo : 512 * j + 512 ≤ zl
        · obtain ⟨g1, g2, g3⟩ := nx_go (E := E) (Z := Z) (o := 512 * j) (by rw [← hzl.out]; exact hgo)
          have G2 := Lib.hid g2; have G3 := Lib.hid g3
          clear g1 g2 g3
          go_wp2_with fail
          refine (rdr_next wr RR.out E4.out).mono ?_; rintro e w4 ⟨b4, c4, rfl, l4, i4, x4, r4, u4⟩
          rw [G2.out, G3.out] at r4
          rw [G2.out]
          have R4 := Lib.hid r4
          have B4 := Lib.hid (BR.out.trans (u4.below (B := w1.heap.size) (by rw [hlo.out]; exact Nat.le_refl _) BR.out.size))
          clear l4 i4 x4 r4 u4
          go_wp2_with fail
          go_roundw
          case rel => exact ⟨j + 1, by go_num, by omega, R4.out, B4.out⟩
          case measure => simp [intOf]; omega
        · obtain ⟨g1, g2, g3⟩ := nx_stop (E := E) (Z := Z) (o := 512 * j) (by rw [← hzl.out]; exact hgo)
          obtain ⟨V, hV⟩ := named (if E = 4 ∧ 512 * j < Z.length then (5 : Int) else E)
          rw [← hV.out] at g2
          rw [← hzl.out] at g3
          have V0 : V ≠ 0 := by rw [hV.out]; have := E4.out; split <;> omega
          have V0' : (V == 0) = false := by simpa using V0
          have G1 := Lib.hid g1; have G2 := Lib.hid g2; have G3 := Lib.hid g3
          have HV0 := Lib.hid V0
          clear g1 g2 g3 V0
          go_wp2_with fail
          refine (rdr_next wr RR.out E4.out).mono ?_; rintro e w4 ⟨b4, c4, rfl, l4, i4, x4, r4, u4⟩
          rw [G2.out, G3.out] at r4
          rw [G2.out]
          have R4 := Lib.hid r4
          have B4 := Lib.hid (BR.out.trans (u4.below (B := w1.heap.size) (by rw [hlo.out]; exact Nat.le_refl _) BR.out.size))
          clear l4 i4 x4 r4 u4
          go_wp2_with fail
          refine (rdr_off w4 R4.out).mono ?_; rintro e w5 ⟨rfl, rfl⟩
          go_wp2_with fail
          go_loopw [47] (fun i wr => ∃ t : Nat, t ≤ R ∧ i = .int .u8 t ∧ Rdr wr lo hi q Z E zl V ∧ Below w1.heap.size w1 wr) (fun i _ => R - (intOf i).toNat)
          case atStart => exact ⟨0, Nat.zero_le _, rfl, R4.out, B4.out⟩
          case round =>
            clear R4 B4 RR BR
            obtain ⟨t, ht, rfl, hr, hbel⟩ := hrel
            have RR := Lib.hid hr; have BR := Lib.hid hbel
            clear hr hbel
            by_cases hlt : t < R
            · have hlt' : (t : Int) < R := by omega
              obtain ⟨g1, g2, g3⟩ := nx_err (Z := Z) (E := E) (o := zl) HV0.out
              have G1 := Lib.hid g1; have G2 := Lib.hid g2; have G3 := Lib.hid g3
              clear g1 g2 g3
              go_wp2_with fail
              refine (rdr_next wr RR.out E4.out).mono ?_; rintro e w6 ⟨b6, c6, rfl, l6, i6, x6, r6, u6⟩
              rw [G2.out, G3.out] at r6
              rw [G1.out, G2.out]
              have R6 := Lib.hid r6
              have B6 := Lib.hid (BR.out.trans (u6.below (B := w1.heap.size) (by rw [hlo.out]; exact Nat.le_refl _) BR.out.size))
              clear l6 i6 x6 r6 u6
              go_wp2_with fail
              refine (rdr_off w6 R6.out).mono ?_; rintro e w7 ⟨rfl, rfl⟩
              go_wp2_with fail
              go_roundw
              case rel => exact ⟨t + 1, by omega, by go_num, R6.out, B6.out⟩
              case measure => simp [intOf]; omega
            · obtain rfl : t = R := by omega
              have hz0 : (0 : Int) ≤ zl := by omega
              have hz1 : (zl : Int) ≤ len := by have := ZN.out.2; omega
              rcases E4.out with hE11 | hE4
              ·   have hF : F = zl := by
                    have h := hE.out; have h2 := ZN.out.1; unfold endE at h; unfold endN at h2
                    by_cases hc : 0 ≤ F ∧ F ≤ len
                    · rw [if_pos hc] at h2; omega
                    · rw [if_neg hc] at h; omega
                  have hV4 : (V == 4) = false := by rw [hV.out, if_neg (by omega), hE11]; rfl
                  have hFz : (F != (zl : Int)) = false := by rw [hF]; simp
                  clear hE11
                  by_cases hzz : zl = len
                  · have hzz' : ((zl : Int) == (len : Int)) = true := by rw [hzz]; simp
                    by_cases hm : (zl : Int) % 512 = 0
                    · have hm' : ((zl : Int) % 512 == 0) = true := by rw [hm]; rfl
                      clear hm hzz hF
                      go_wp2_with fail
                      refine (alive_any _).mono ?_; rintro e w6 ⟨rfl, b6⟩
                      have B6 := Lib.hid b6; have d1 := K0.out _ (BR.out.trans (b6.mono BR.out.size)); clear b6
                      go_wp2
                      go_ret
                      exact ⟨rfl, B1.out.trans ((BR.out.trans (B6.out.mono BR.out.size)).mono B1.out.size)⟩
                    · have hm' : ((zl : Int) % 512 == 0) = false := by simpa using hm
                      clear hm hzz hF
                      go_wp2_with fail
                      refine (alive_any _).mono ?_; rintro e w6 ⟨rfl, b6⟩
                      have B6 := Lib.hid b6; have d1 := K0.out _ (BR.out.trans (b6.mono BR.out.size)); clear b6
                      go_wp2
                      go_ret
                      exact ⟨rfl, B1.out.trans ((BR.out.trans (B6.out.mono BR.out.size)).mono B1.out.size)⟩
                  · have hzz' : ((zl : Int) == (len : Int)) = false := by simp; omega
                    clear hzz hF
                    go_wp2_with fail
                    refine (alive_any _).mono ?_; rintro e w6 ⟨rfl, b6⟩
                    have B6 := Lib.hid b6; have d1 := K0.out _ (BR.out.trans (b6.mono BR.out.size)); clear b6
                    go_wp2
                    go_ret
                    exact ⟨rfl, B1.out.trans ((BR.out.trans (B6.out.mono BR.out.size)).mono B1.out.size)⟩
              ·   have hnF : ¬ (0 ≤ F ∧ F ≤ len) := by
                    intro hc; have h := hE.out; unfold endE at h; rw [if_pos hc] at h; omega
                  have hzz : zl = len := by have h2 := ZN.out.1; unfold endN at h2; rw [if_neg hnF] at h2; exact h2
                  have hzz' : ((zl : Int) == (len : Int)) = true := by rw [hzz]; simp
                  have hFz : (F != (zl : Int)) = true := by simp; omega
                  by_cases ho : 512 * j = zl
                  · have hV4 : (V == 4) = true := by rw [hV.out, if_neg (by have := hzl.out; omega), hE4]; rfl
                    have hm' : ((zl : Int) % 512 == 0) = true := by
                      have : (zl : Int) % 512 = 0 := by omega
                      rw [this]; rfl
                    clear hE4 hnF hzz ho
                    go_wp2_with fail
                    refine (alive_any _).mono ?_; rintro e w6 ⟨rfl, b6⟩
                    have B6 := Lib.hid b6; have d1 := K0.out _ (BR.out.trans (b6.mono BR.out.size)); clear b6
                    go_wp2
                    go_ret
                    exact ⟨rfl, B1.out.trans ((BR.out.trans (B6.out.mono BR.out.size)).mono B1.out.size)⟩
                  · have hV4 : (V == 4) = false := by rw [hV.out, if_pos (by have := hzl.out; omega)]; rfl
                    have hm' : ((zl : Int) % 512 == 0) = false := by
                      have : ¬ (zl : Int) % 512 = 0 := by omega
                      simpa using this
                    clear hE4 hnF hzz ho
                    go_wp2_with fail
                    refine (alive_any _).mono ?_; rintro e w6 ⟨rfl, b6⟩
                    have B6 := Lib.hid b6; have d1 := K0.out _ (BR.out.trans (b6.mono BR.out.size)); clear b6
                    go_wp2
                    go_ret
                    exact ⟨rfl, B1.out.trans ((BR.out.trans (B6.out.mono BR.out.size)).mono B1.out.size)⟩
end Go.Proofs.Ytjipmiiohijfoaa
