/-
  SourceChunkSizes, walked.
-/
import Derived.Test.YtdjfehjamlcceaaSrcUse
import Derived.Test.YtdjfehjamlcceaaStructArg
namespace Go.Proofs.Ytdjfehjamlcceaa
open Go.RowKit

theorem chunk_le {zs : List Int} (hz : Bytes zs) (r : Nat) (h0 : ¬ zs.length = 0) : chunkZ zs r = max (zs.getD (r % zs.length) 0) 1 ∧ chunkZ zs r ≤ 255 := by
  have := hz.getD (r % zs.length)
  unfold chunkZ
  rw [if_neg h0]
  omega

set_option maxRecDepth 100000 in
set_option maxHeartbeats 8000000 in
theorem walk_SourceChunkSizes (n : Int) (a : Option Addr) (len cap : Nat) (zs : List Int) (w : World) (hn : (Lit.int .u16 n).wf = true) (hz : ArgInts .u8 w a len cap zs) :
    Calls Try.prog 6 #[.int .u16 n, .slice a len cap] w fun e w' => e = .returned (.bool true) ∧ Below w.heap.size w w' := by
  obtain ⟨n0, n1⟩ := bounds_u16 hn
  clear hn
  have HB := Lib.hid hz.bytes; have HL := Lib.hid hz.1
  clear hz
  by_cases hl0 : len = 0
  · subst hl0
    go_enter Try.func6, Try.ntmps6
    go_wp2_with fail
    refine (alive_any _).mono ?_; rintro e w2 ⟨rfl, b2⟩
    go_wp2
    go_ret
    exact ⟨rfl, b2⟩
  · have hl0' : ((len : Int) == 0) = false := by simp; omega
    by_cases h100 : (100 : Int) < len
    · go_enter Try.func6, Try.ntmps6
      go_wp2_with fail
      refine (alive_any _).mono ?_; rintro e w2 ⟨rfl, b2⟩
      go_wp2
      go_ret
      exact ⟨rfl, b2⟩
    · have HI8 := Lib.hid i64T
      obtain ⟨b, off, rfl, hb, hrow⟩ : ∃ b off, a = some ⟨b, off, none⟩ ∧ b < w.heap.size ∧ RowAt w b off zs := by
        rcases HB.out with h | h
        · have := HL.out; rw [h] at this; simp at this; omega
        · exact h
      have HR := Lib.hid hrow; clear hrow
      go_enter Try.func6, Try.ntmps6
      go_wp2_with (refine wpList_make_k rfl _ _ 23 3 .i64 8 rfl Try.underlying23 HI8.out len rfl rfl (by omega) (by unfold maxLen; omega) ?_; intro w1 h1 b1; have H1 := Lib.hid h1; have B1 := Lib.hid b1; clear h1 b1)
      go_loopw [6, 7, 30] (fun _ _ i wr => ∃ (j : Nat) (ys : List Int), j ≤ len ∧ i = .int .i64 j ∧ ys.length = len ∧ (∀ q, q < j → ys.getD q 0 = zs.getD q 0) ∧ ObjAt wr w.heap.size 3 (ys.map (.int .i64)) ∧ Below w.heap.size w wr) (fun _ _ i _ => len - (intOf i).toNat)
      case atStart => exact ⟨0, zeros len, by omega, rfl, zeros_length _, by omega, H1.out, B1.out⟩
      case round =>
        obtain ⟨j, ys, hj, rfl, hyl, hyz, hob, hbel⟩ := hrel
        have YL := Lib.hid hyl; have YZ := Lib.hid hyz; have OB := Lib.hid hob; have BR := Lib.hid hbel
        clear hyl hyz hob hbel
        by_cases hlt : j < len
        · obtain ⟨d, hd, d0, d1, hcj⟩ := (HR.out.below BR.out hb).get j (by rw [HL.out]; exact hlt)
          have HD := Lib.hid hd; clear hd
          have hlt' : (j : Int) < len := by omega
          have hcell : wr.cell? ⟨w.heap.size, j, none⟩ = some (.int .i64 (ys.getD j 0)) := by
            rw [OB.out.cell, List.getElem?_map, List.getElem?_eq_getElem (by rw [YL.out]; exact hlt), List.getD_eq_getElem?_getD, List.getElem?_eq_getElem (by rw [YL.out]; exact hlt)]; rfl
          have hfz := OB.out.frozen j
          go_wp2
          go_roundw
          case rel =>
            refine ⟨j + 1, ys.set j d, by omega, by go_num, by rw [List.length_set]; exact YL.out, fun q hq => ?_, by rw [List.map_set]; exact OB.out.set j _, BR.out.setCell (Nat.le_refl _) _⟩
            by_cases hqj : q = j
            · subst hqj
              rw [List.getD_eq_getElem?_getD, List.getElem?_set_self (by rw [YL.out]; exact hlt), HD.out]; rfl
            · rw [List.getD_eq_getElem?_getD, List.getElem?_set_ne (by omega), ← List.getD_eq_getElem?_getD]
              exact YZ.out q (by omega)
          case measure => simp [intOf]; omega
        · obtain rfl : j = len := by omega
          have hys : ys = zs := by
            apply List.ext_getElem
            · rw [YL.out, HL.out]
            · intro q h1 h2
              have := YZ.out q (by rw [← HL.out]; exact h2)
              simpa [List.getD_eq_getElem?_getD, List.getElem?_eq_getElem h1, List.getElem?_eq_getElem h2] using this
          subst hys
          obtain ⟨L, hL⟩ : ∃ L : Nat, n % 3000 = L := ⟨(n % 3000).toNat, by omega⟩
          have hL' : L < 3000 := by omega
          obtain ⟨i0, HI⟩ := info_u8 (P := Try.prog) (e := 5) (by kernel_rfl)
          have CI := Lib.hid (cells_row OB.out)
          go_wp2_with (refine wpList_make_arr rfl _ _ 22 5 rfl Try.underlying22 i0 HI L rfl rfl (by omega) ?_; intro w2 h2 b2; have H2 := Lib.hid h2; have B2 := Lib.hid b2; clear h2 b2)
          obtain ⟨Z, hZ⟩ := named (zeros L)
          rw [← hZ.out] at H2
          have ZL : Hid (Z.length = L) := by show _ = _; rw [hZ.out, zeros_length]
          have G1 := Lib.hid OB.out.lt; have G2 := Lib.hid B2.out.size
          refine (new_any (some ⟨wr.heap.size, 0, none⟩) L L Z (some ⟨w.heap.size, 0, none⟩) j j ys (-1) w2 H2.out.bytes ZL.out (Nat.le_refl _) (by omega) (CI.out.below B2.out) YL.out (by omega)).mono ?_; rintro e w3 ⟨s, rfl, s3, b3⟩
          have e1 : Z.take (endN (-1) L) = Z := by unfold endN; rw [if_neg (by omega)]; exact List.take_of_length_le (by rw [ZL.out]; exact Nat.le_refl _)
          have e2 : endE (-1) L = 4 := by unfold endE; rw [if_neg (by omega)]
          rw [e1, e2] at s3
          have S3 := Lib.hid s3; have B3 := Lib.hid b3; have G3 := Lib.hid b3.size
          have C3 := Lib.hid ((CI.out.below B2.out).below b3)
          have BB := Lib.hid ((BR.out.trans (B2.out.mono (Nat.le_of_lt OB.out.lt))).trans (b3.mono (Nat.le_trans (Nat.le_of_lt OB.out.lt) B2.out.size)))
          clear s3 b3 e1 e2
          go_wp2_with fail
          go_loopw [8, 10] (fun l i wx => ∃ o r : Nat, o ≤ L ∧ r ≤ o ∧ l = .int .i64 ((L - o : Nat) : Int) ∧ i = .int .i64 r ∧ Src wx w2.heap.size w3.heap.size s Z 4 ys o r ∧ InK .i64 wx (some ⟨w.heap.size, 0, none⟩) ys ∧ Below w.heap.size w wx) (fun l _ _ => (intOf l).toNat)
          case atStart => exact ⟨0, 0, Nat.zero_le _, Nat.le_refl _, by go_num, rfl, S3.out, C3.out, BB.out⟩
          case round =>
            obtain ⟨o, r, ho, hr, rfl, rfl, hsrc, hck, hbel⟩ := hrel
            have SX := Lib.hid hsrc; have CK := Lib.hid hck; have BX := Lib.hid hbel
            clear hsrc hck hbel
            by_cases hlt : o < L
            · obtain ⟨M, hM⟩ := named (L - o)
              have hlt' : (0 : Int) < (M : Int) := by rw [hM.out]; omega
              rw [← hM.out]
              obtain ⟨x, hx⟩ := named (r % j)
              have hxl : x < j := by rw [hx.out]; exact Nat.mod_lt _ (by omega)
              have hmod : (r : Int) % (j : Int) = (x : Int) := by rw [hx.out]; omega
              obtain ⟨d, hd⟩ := named (ys.getD x 0)
              have hcell := CK.out.get x (by rw [YL.out]; exact hxl)
              rw [← hd.out, Nat.zero_add] at hcell
              have hcz := chunk_le HB.out.bytes r (by rw [YL.out]; omega)
              obtain ⟨C, hC⟩ := named (chunkZ ys r)
              rw [YL.out, ← hx.out, ← hd.out, ← hC.out] at hcz
              obtain ⟨k, hk⟩ := named (readK Z.length ys o r 10000)
              have hkk : min (M : Int) C = k := by rw [hk.out, hM.out]; unfold readK; rw [← hC.out, ZL.out]; omega
              have hM' := hM.out
              have HK1 : Hid (1 ≤ k ∧ o + k ≤ L) := by show _ ∧ _; omega
              have hkM : (k : Int) ≤ M := by omega
              have hkM1 : (1 : Int) ≤ k := by omega
              have hM3 : (M : Int) ≤ 3000 := by omega
              clear hM'
              have hmx : max (1 : Int) d = C := by omega
              have HK := Lib.hid hkk; have HX := Lib.hid hmx
              clear hkk hcz hmx
              go_wp2_with (first | (refine wpList_max2 rfl _ _ _ rfl .i64 .i64 1 d C rfl rfl HX.out ?_) | (refine wpList_min2 rfl _ _ _ rfl .i64 .i64 M C k rfl rfl HK.out ?_))
              have KO := Lib.hid (show o < Z.length by rw [ZL.out]; exact hlt)
              refine (read_go 10000 wr SX.out (by decide) KO.out k hk.out.symm).mono ?_; rintro e w5 ⟨g5, c5, rfl, _, s5, u5⟩
              have S5 := Lib.hid s5; have U5 := Lib.hid u5; clear s5 u5
              go_wp2_with fail
              refine (reads_ok w5 S5.out).mono ?_; rintro e w6 ⟨rfl, rfl⟩
              go_wp2_with fail
              go_roundw
              case rel =>
                have k1 := HK1.out; have m1 := hM.out; have q1 := SX.out.size; have q2 := G1.out; have q3 := G2.out
                refine ⟨o + k, r + 1, by omega, by omega, by go_num, by go_num, S5.out, CK.out.out U5.out (fun x hx => by cases hx; exact .inl (show w.heap.size < w2.heap.size by omega)), BX.out.trans (U5.out.below (by omega) (by omega))⟩
              case measure => have k1 := HK1.out; have m1 := hM.out; simp [intOf]; omega
            · obtain rfl : o = L := by omega
              have e0 : ((o - o : Nat) : Int) = 0 := by omega
              rw [e0]
              go_wp2_with fail
              refine (read_stop 1 wr SX.out (by decide) ZL.out.symm).mono ?_; rintro e w5 ⟨a5, c5, rfl, _, s5, u5⟩
              have U5 := Lib.hid u5; clear s5 u5
              go_wp2_with fail
              refine (alive_any _).mono ?_; rintro e w6 ⟨rfl, b6⟩
              have B6 := Lib.hid b6; clear b6
              go_wp2
              go_ret
              have q1 := SX.out.size; have q2 := G1.out; have q3 := G2.out; have q4 := U5.out.size
              exact ⟨rfl, (BX.out.trans (U5.out.below (by omega) (by omega))).trans (B6.out.mono (by omega))⟩
end Go.Proofs.Ytdjfehjamlcceaa
