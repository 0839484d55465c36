/-
  SourceDeliversPrefix, walked.
-/
import Derived.Test.YtdjfehjamlcceaaSrcUse
import Derived.Test.YtdjfehjamlcceaaRegion
import Derived.Test.YtdjfehjamlcceaaStructArg
namespace Go.Proofs.Ytdjfehjamlcceaa
open Go.RowKit

set_option maxRecDepth 100000 in
set_option maxHeartbeats 8000000 in
theorem walk_SourceDeliversPrefix (a : Option Addr) (len cap : Nat) (zs : List Int) (ca : Option Addr) (cl cc : Nat) (cs : List Int) (F : Int) (n : Int) (w : World) (hz : ArgInts .u8 w a len cap zs) (hc : ArgInts .i64 w ca cl cc cs)
    (_ : (Lit.int .i64 F).wf = true) (hn : (Lit.int .u16 n).wf = true) :
    Calls Try.prog 4 #[.slice a len cap, .agg #[.slice ca cl cc, .int .i64 F], .int .u16 n] w fun e w' => e = .returned (.bool true) ∧ Below w.heap.size w w' := by
  obtain ⟨n0, n1⟩ := bounds_u16 hn
  clear hn
  have HB := Lib.hid hz.bytes; have HL := Lib.hid hz.1; have HC := Lib.hid hz.2.1; have HI := Lib.hid hc.inK; have HCL := Lib.hid hc.1
  clear hz hc
  by_cases h2000 : (2000 : Int) < len
  · go_enter Try.func4, Try.ntmps4
    go_wp2_with (first | (refine wpList_box_obj rfl 25 _ rfl [.slice ca cl cc, .int .i64 F] rfl ?_; intro w1 h1 b1; have H1 := Lib.hid h1; have B1 := Lib.hid b1; have c0 := h1.get 0 rfl; have c1 := h1.get 1 rfl; clear h1 b1))
    refine (alive_any _).mono ?_; rintro e w2 ⟨rfl, b2⟩
    go_wp2
    go_ret
    exact ⟨rfl, B1.out.trans (b2.mono B1.out.size)⟩
  · by_cases h300 : (300 : Int) < cl
    · go_enter Try.func4, Try.ntmps4
      go_wp2_with (first | (refine wpList_box_obj rfl 25 _ rfl [.slice ca cl cc, .int .i64 F] rfl ?_; intro w1 h1 b1; have H1 := Lib.hid h1; have B1 := Lib.hid b1; have c0 := h1.get 0 rfl; have c1 := h1.get 1 rfl; clear h1 b1))
      refine (alive_any _).mono ?_; rintro e w2 ⟨rfl, b2⟩
      go_wp2
      go_ret
      exact ⟨rfl, B1.out.trans (b2.mono B1.out.size)⟩
    · have he : (Try.prog.info? 5).map (·.size) = some 1 := by obtain ⟨i, h1, _, h2, _⟩ := u8T; simp [h1, h2]
      have HE1 := Lib.hid he; clear he
      by_cases hF : 0 ≤ F ∧ F ≤ len
      · obtain ⟨N, rfl⟩ : ∃ N : Nat, F = N := ⟨F.toNat, by omega⟩
        have hN : Hid (endN N len = N) := by show _ = _; unfold endN; rw [if_pos hF]; rfl
        have hE : Hid (endE N len = 11) := by show _ = _; unfold endE; rw [if_pos hF]
        obtain ⟨hF0, hF1⟩ := hF
        have hNL : N ≤ len := by omega
        go_enter Try.func4, Try.ntmps4
        go_wp2_with (first | (refine wpList_box_obj rfl 25 _ rfl [.slice ca cl cc, .int .i64 N] rfl ?_; intro w1 h1 b1; have H1 := Lib.hid h1; have B1 := Lib.hid b1; have c0 := h1.get 0 rfl; have c1 := h1.get 1 rfl; clear h1 b1))
        refine (new_any a len cap zs ca cl cc cs N w1 (HB.out.below B1.out) HL.out HC.out (by omega) (HI.out.below B1.out) HCL.out (by omega)).mono ?_; rintro e w2 ⟨s, rfl, s2, b2⟩
        obtain ⟨Z, hZ⟩ := named (zs.take N)
        rw [hN.out, ← hZ.out, hE.out] at s2
        have S2 := Lib.hid s2; have B2 := Lib.hid b2
        have c0' := H1.out.below b2 H1.out.lt |>.get 0 rfl
        have c1' := H1.out.below b2 H1.out.lt |>.get 1 rfl
        clear s2 b2 c0 c1
        have HZL : Hid (Z.length = N) := by show _ = _; rw [hZ.out, List.length_take, HL.out]; omega
        have BN : Hid (BytesIn w a Z) := by show BytesIn _ _ _; rw [hZ.out]; exact HB.out.take N
        obtain ⟨SZ, hSZ⟩ := named (strOfNums Z)
        go_wp2_with (first | (refine wpList_lit_k rfl 22 5 .u8 rfl Try.underlying22 HE1.out ?_; intro w3 h3 b3; have O3 := Lib.hid h3; have B3 := Lib.hid b3; clear h3 b3))
        have S3 := Lib.hid (S2.out.below B3.out)
        have G1 := Lib.hid B1.out.size; have G2 := Lib.hid B2.out.size; have G3 := Lib.hid B3.out.size
        have T3 := Lib.hid (B1.out.trans ((B2.out.trans (B3.out.mono B2.out.size)).mono B1.out.size))
        go_loopw [10, 48] (fun v i wr => ∃ j o r : Nat, j ≤ o ∧ i = .int .i64 j ∧ wr.ownsRow w2.heap.size 5 1 v o ((Z.take o).map (.int .u8)) ∧ Src wr w1.heap.size w2.heap.size s Z 11 cs o r ∧ Below w.heap.size w wr) (fun _ i _ => len + 1 - (intOf i).toNat)
        case atStart => exact ⟨0, 0, 0, Nat.le_refl _, rfl, O3.out, S3.out, T3.out⟩
        case round =>
          obtain ⟨j, o, r, hjo, rfl, hown, hsrc, hbel⟩ := hrel
          have OW := Lib.hid hown; have SR := Lib.hid hsrc; have BR := Lib.hid hbel
          have hoN : o ≤ N := by have := hsrc.bytes.2.1; rw [HZL.out] at this; exact this
          have RO := Lib.hid hsrc.bytes.2.2
          clear hown hsrc hbel
          have hlt' : (j : Int) < (len : Int) + 1 := by omega
          by_cases ho : o = N
          · go_wp2_with fail
            refine (read_stop (1 + n) wr SR.out (by omega) (by rw [HZL.out]; exact ho)).mono ?_; rintro e w4 ⟨a4, c4, rfl, _, s4, u4⟩
            have S4 := Lib.hid s4; have U4 := Lib.hid u4; clear s4 u4
            go_wp2_with fail
            refine (read_stop 1 w4 S4.out (by decide) (by rw [HZL.out]; exact ho)).mono ?_; rintro e w5 ⟨a5, c5, rfl, _, s5, u5⟩
            have S5 := Lib.hid s5; have U5 := Lib.hid u5; clear s5 u5
            have OW5 := own_out (own_out OW.out U4.out (Nat.le_refl _)) U5.out (Nat.le_refl _)
            obtain ⟨gb, gc, rfl, gk, _, _, gl, _⟩ := own_any OW5
            have ez : Z.take o = Z := List.take_of_length_le (by rw [HZL.out]; omega)
            rw [ez] at gk
            have GK := Lib.hid (gk.bytes S5.out.bytes.1)
            have BB := Lib.hid ((BR.out.trans (U4.out.below G1.out (by have := SR.out.size; have := G1.out; have := G2.out; omega))).trans (U5.out.below G1.out (by have := S4.out.size; have := G1.out; have := G2.out; omega)))
            clear OW5 gk gl ez
            have hc1 : ∀ q : Of (fun w' => Below w5.heap.size w5 w'), (convert 22 9 (.slice gb N gc)).run Try.prog q.w = .ok (.string SZ) q.w := fun q => by
              rw [hSZ.out]; exact run_str_in (P := Try.prog) Try.underlying22 Try.underlying5 Try.underlying9 (GK.out.below q.h) N gc HZL.out
            have hc2 : ∀ q : Of (fun w' => Below w5.heap.size w5 w'), (convert 22 9 (.slice a N cap)).run Try.prog q.w = .ok (.string SZ) q.w := fun q => by
              rw [hSZ.out]; exact run_str_in (P := Try.prog) Try.underlying22 Try.underlying5 Try.underlying9 ((BN.out.block BB.out.size (fun _ _ h => BB.out.block _ h)).below q.h) N cap HZL.out
            have k1 : N ≤ cap := by have := HC.out; omega
            have k2 : (N : Int) ≤ cap := by omega
            have k3 : (0 : Int) ≤ N := by omega
            go_wp2_with fail
            refine wp_region_class (S := fun w' => Below w5.heap.size w5 w') (by kernel_rfl) (by kernel_rfl) (Below.refl _ _).drew ?_
            intro hne
            repeat (go_big_quiet_step (first | (go_at_call 10; exact Calls.in_class (alive_any _) fun w' hb q => q.trans (hb.mono q.size)) | (go_at_call 8; exact Calls.in_classS (v := .int .i64 o) (fun w' hw' => (offset_ok w' (S5.out.below hw')).mono (fun _ _ h => ⟨h.1, by rw [← h.2]; exact Below.refl _ _⟩)) fun w' hb q => q.trans (hb.mono q.size))))
            refine wpQuiet_nil ?_
            rintro wq ⟨q, rfl⟩
            go_wp2
            go_ret
            exact ⟨rfl, BB.out.trans (q.h.mono BB.out.size)⟩
          · have ho' : o < Z.length := by rw [HZL.out]; omega
            obtain ⟨k, hk⟩ := named (readK Z.length cs o r (1 + n))
            have hkb := readK_bd (L := Z.length) (cs := cs) (o := o) (r := r) (n := 1 + n) (by omega) ho'
            rw [← hk.out, HZL.out] at hkb
            obtain ⟨kb1, kb2, kb3⟩ := hkb
            have kb4 : ¬ (k : Int) < 1 := by omega
            have kb5 : (1 : Int) ≤ k := by omega
            have HO := Lib.hid ho'; clear ho'
            go_wp2_with fail
            refine (read_go (1 + n) wr SR.out (by omega) HO.out k hk.out.symm).mono ?_; rintro e w4 ⟨g4, c4, rfl, o4, s4, u4⟩
            have O4 := Lib.hid o4; have S4 := Lib.hid s4; have U4 := Lib.hid u4; clear o4 s4 u4
            have OW4 := Lib.hid (own_out OW.out U4.out (Nat.le_refl _))
            have KL : Hid (((Z.drop o).take k).length = k) := by show _ = _; rw [List.length_take, List.length_drop, HZL.out]; omega
            go_wp2_with (first | (at_builtin; refine wpList_append_k rfl _ _ 22 rfl w2.heap.size 5 .u8 1 Try.underlying22 u8T _ o (Z.take o) rfl OW4.out (some ⟨g4, 0, none⟩) k c4 ((Z.drop o).take k) rfl (InK.of_own O4.out) KL.out (by unfold maxLen; omega) (by omega) (by have := S4.out.size; omega) ?_; intro v5 w5 o5 b5; rw [take_take_drop] at o5; have O5 := Lib.hid o5; have B5 := Lib.hid b5; clear o5 b5))
            go_roundw
            case rel =>
              have g1 := G1.out; have g2 := G2.out; have z4 := S4.out.size; have zR := SR.out.size
              refine ⟨j + 1, o + k, r + 1, by omega, by go_num, O5.out, ?_, (BR.out.trans (U4.out.below g1 (by omega))).trans (B5.out.mono (by omega))⟩
              exact S4.out.out (lo' := w2.heap.size) (hi' := w5.heap.size + w2.heap.size) (out_of_below B5.out) (.inl (Nat.le_refl _))
            case measure => simp [intOf]; omega
      · obtain ⟨N, hN0⟩ : ∃ N : Nat, N = len := ⟨_, rfl⟩
        have hN : Hid (endN F len = N) := by show _ = _; unfold endN; rw [if_neg hF, hN0]
        have hE : Hid (endE F len = 4) := by show _ = _; unfold endE; rw [if_neg hF]
        have hNL : N ≤ len := by omega
        subst hN0
        by_cases hF0 : 0 ≤ F
        · have hF1 : ¬ F ≤ N := fun h => hF ⟨hF0, h⟩
          clear hF
          go_enter Try.func4, Try.ntmps4
          go_wp2_with (first | (refine wpList_box_obj rfl 25 _ rfl [.slice ca cl cc, .int .i64 F] rfl ?_; intro w1 h1 b1; have H1 := Lib.hid h1; have B1 := Lib.hid b1; have c0 := h1.get 0 rfl; have c1 := h1.get 1 rfl; clear h1 b1))
          refine (new_any a N cap zs ca cl cc cs F w1 (HB.out.below B1.out) HL.out HC.out (by omega) (HI.out.below B1.out) HCL.out (by omega)).mono ?_; rintro e w2 ⟨s, rfl, s2, b2⟩
          obtain ⟨Z, hZ⟩ := named (zs.take N)
          rw [hN.out, ← hZ.out, hE.out] at s2
          have S2 := Lib.hid s2; have B2 := Lib.hid b2
          have c0' := H1.out.below b2 H1.out.lt |>.get 0 rfl
          have c1' := H1.out.below b2 H1.out.lt |>.get 1 rfl
          clear s2 b2 c0 c1
          have HZL : Hid (Z.length = N) := by show _ = _; rw [hZ.out, List.length_take, HL.out]; omega
          have BN : Hid (BytesIn w a Z) := by show BytesIn _ _ _; rw [hZ.out]; exact HB.out.take N
          obtain ⟨SZ, hSZ⟩ := named (strOfNums Z)
          go_wp2_with (first | (refine wpList_lit_k rfl 22 5 .u8 rfl Try.underlying22 HE1.out ?_; intro w3 h3 b3; have O3 := Lib.hid h3; have B3 := Lib.hid b3; clear h3 b3))
          have S3 := Lib.hid (S2.out.below B3.out)
          have G1 := Lib.hid B1.out.size; have G2 := Lib.hid B2.out.size; have G3 := Lib.hid B3.out.size
          have T3 := Lib.hid (B1.out.trans ((B2.out.trans (B3.out.mono B2.out.size)).mono B1.out.size))
          go_loopw [10, 48] (fun v i wr => ∃ j o r : Nat, j ≤ o ∧ i = .int .i64 j ∧ wr.ownsRow w2.heap.size 5 1 v o ((Z.take o).map (.int .u8)) ∧ Src wr w1.heap.size w2.heap.size s Z 4 cs o r ∧ Below w.heap.size w wr) (fun _ i _ => N + 1 - (intOf i).toNat)
          case atStart => exact ⟨0, 0, 0, Nat.le_refl _, rfl, O3.out, S3.out, T3.out⟩
          case round =>
            obtain ⟨j, o, r, hjo, rfl, hown, hsrc, hbel⟩ := hrel
            have OW := Lib.hid hown; have SR := Lib.hid hsrc; have BR := Lib.hid hbel
            have hoN : o ≤ N := by have := hsrc.bytes.2.1; rw [HZL.out] at this; exact this
            have RO := Lib.hid hsrc.bytes.2.2
            clear hown hsrc hbel
            have hlt' : (j : Int) < (N : Int) + 1 := by omega
            by_cases ho : o = N
            · go_wp2_with fail
              refine (read_stop (1 + n) wr SR.out (by omega) (by rw [HZL.out]; exact ho)).mono ?_; rintro e w4 ⟨a4, c4, rfl, _, s4, u4⟩
              have S4 := Lib.hid s4; have U4 := Lib.hid u4; clear s4 u4
              go_wp2_with fail
              refine (read_stop 1 w4 S4.out (by decide) (by rw [HZL.out]; exact ho)).mono ?_; rintro e w5 ⟨a5, c5, rfl, _, s5, u5⟩
              have S5 := Lib.hid s5; have U5 := Lib.hid u5; clear s5 u5
              have OW5 := own_out (own_out OW.out U4.out (Nat.le_refl _)) U5.out (Nat.le_refl _)
              obtain ⟨gb, gc, rfl, gk, _, _, gl, _⟩ := own_any OW5
              have ez : Z.take o = Z := List.take_of_length_le (by rw [HZL.out]; omega)
              rw [ez] at gk
              have GK := Lib.hid (gk.bytes S5.out.bytes.1)
              have BB := Lib.hid ((BR.out.trans (U4.out.below G1.out (by have := SR.out.size; have := G1.out; have := G2.out; omega))).trans (U5.out.below G1.out (by have := S4.out.size; have := G1.out; have := G2.out; omega)))
              clear OW5 gk gl ez
              have hc1 : ∀ q : Of (fun w' => Below w5.heap.size w5 w'), (convert 22 9 (.slice gb N gc)).run Try.prog q.w = .ok (.string SZ) q.w := fun q => by
                rw [hSZ.out]; exact run_str_in (P := Try.prog) Try.underlying22 Try.underlying5 Try.underlying9 (GK.out.below q.h) N gc HZL.out
              have hc2 : ∀ q : Of (fun w' => Below w5.heap.size w5 w'), (convert 22 9 (.slice a N cap)).run Try.prog q.w = .ok (.string SZ) q.w := fun q => by
                rw [hSZ.out]; exact run_str_in (P := Try.prog) Try.underlying22 Try.underlying5 Try.underlying9 ((BN.out.block BB.out.size (fun _ _ h => BB.out.block _ h)).below q.h) N cap HZL.out
              have k1 : N ≤ cap := by have := HC.out; omega
              have k2 : (N : Int) ≤ cap := by omega
              have k3 : (0 : Int) ≤ N := by omega
              go_wp2_with fail
              refine wp_region_class (S := fun w' => Below w5.heap.size w5 w') (by kernel_rfl) (by kernel_rfl) (Below.refl _ _).drew ?_
              intro hne
              repeat (go_big_quiet_step (first | (go_at_call 10; exact Calls.in_class (alive_any _) fun w' hb q => q.trans (hb.mono q.size)) | (go_at_call 8; exact Calls.in_classS (v := .int .i64 o) (fun w' hw' => (offset_ok w' (S5.out.below hw')).mono (fun _ _ h => ⟨h.1, by rw [← h.2]; exact Below.refl _ _⟩)) fun w' hb q => q.trans (hb.mono q.size))))
              refine wpQuiet_nil ?_
              rintro wq ⟨q, rfl⟩
              go_wp2
              go_ret
              exact ⟨rfl, BB.out.trans (q.h.mono BB.out.size)⟩
            · have ho' : o < Z.length := by rw [HZL.out]; omega
              obtain ⟨k, hk⟩ := named (readK Z.length cs o r (1 + n))
              have hkb := readK_bd (L := Z.length) (cs := cs) (o := o) (r := r) (n := 1 + n) (by omega) ho'
              rw [← hk.out, HZL.out] at hkb
              obtain ⟨kb1, kb2, kb3⟩ := hkb
              have kb4 : ¬ (k : Int) < 1 := by omega
              have kb5 : (1 : Int) ≤ k := by omega
              have HO := Lib.hid ho'; clear ho'
              go_wp2_with fail
              refine (read_go (1 + n) wr SR.out (by omega) HO.out k hk.out.symm).mono ?_; rintro e w4 ⟨g4, c4, rfl, o4, s4, u4⟩
              have O4 := Lib.hid o4; have S4 := Lib.hid s4; have U4 := Lib.hid u4; clear o4 s4 u4
              have OW4 := Lib.hid (own_out OW.out U4.out (Nat.le_refl _))
              have KL : Hid (((Z.drop o).take k).length = k) := by show _ = _; rw [List.length_take, List.length_drop, HZL.out]; omega
              go_wp2_with (first | (at_builtin; refine wpList_append_k rfl _ _ 22 rfl w2.heap.size 5 .u8 1 Try.underlying22 u8T _ o (Z.take o) rfl OW4.out (some ⟨g4, 0, none⟩) k c4 ((Z.drop o).take k) rfl (InK.of_own O4.out) KL.out (by unfold maxLen; omega) (by omega) (by have := S4.out.size; omega) ?_; intro v5 w5 o5 b5; rw [take_take_drop] at o5; have O5 := Lib.hid o5; have B5 := Lib.hid b5; clear o5 b5))
              go_roundw
              case rel =>
                have g1 := G1.out; have g2 := G2.out; have z4 := S4.out.size; have zR := SR.out.size
                refine ⟨j + 1, o + k, r + 1, by omega, by go_num, O5.out, ?_, (BR.out.trans (U4.out.below g1 (by omega))).trans (B5.out.mono (by omega))⟩
                exact S4.out.out (lo' := w2.heap.size) (hi' := w5.heap.size + w2.heap.size) (out_of_below B5.out) (.inl (Nat.le_refl _))
              case measure => simp [intOf]; omega
        · clear hF
          go_enter Try.func4, Try.ntmps4
          go_wp2_with (first | (refine wpList_box_obj rfl 25 _ rfl [.slice ca cl cc, .int .i64 F] rfl ?_; intro w1 h1 b1; have H1 := Lib.hid h1; have B1 := Lib.hid b1; have c0 := h1.get 0 rfl; have c1 := h1.get 1 rfl; clear h1 b1))
          refine (new_any a N cap zs ca cl cc cs F w1 (HB.out.below B1.out) HL.out HC.out (by omega) (HI.out.below B1.out) HCL.out (by omega)).mono ?_; rintro e w2 ⟨s, rfl, s2, b2⟩
          obtain ⟨Z, hZ⟩ := named (zs.take N)
          rw [hN.out, ← hZ.out, hE.out] at s2
          have S2 := Lib.hid s2; have B2 := Lib.hid b2
          have c0' := H1.out.below b2 H1.out.lt |>.get 0 rfl
          have c1' := H1.out.below b2 H1.out.lt |>.get 1 rfl
          clear s2 b2 c0 c1
          have HZL : Hid (Z.length = N) := by show _ = _; rw [hZ.out, List.length_take, HL.out]; omega
          have BN : Hid (BytesIn w a Z) := by show BytesIn _ _ _; rw [hZ.out]; exact HB.out.take N
          obtain ⟨SZ, hSZ⟩ := named (strOfNums Z)
          go_wp2_with (first | (refine wpList_lit_k rfl 22 5 .u8 rfl Try.underlying22 HE1.out ?_; intro w3 h3 b3; have O3 := Lib.hid h3; have B3 := Lib.hid b3; clear h3 b3))
          have S3 := Lib.hid (S2.out.below B3.out)
          have G1 := Lib.hid B1.out.size; have G2 := Lib.hid B2.out.size; have G3 := Lib.hid B3.out.size
          have T3 := Lib.hid (B1.out.trans ((B2.out.trans (B3.out.mono B2.out.size)).mono B1.out.size))
          go_loopw [10, 48] (fun v i wr => ∃ j o r : Nat, j ≤ o ∧ i = .int .i64 j ∧ wr.ownsRow w2.heap.size 5 1 v o ((Z.take o).map (.int .u8)) ∧ Src wr w1.heap.size w2.heap.size s Z 4 cs o r ∧ Below w.heap.size w wr) (fun _ i _ => N + 1 - (intOf i).toNat)
          case atStart => exact ⟨0, 0, 0, Nat.le_refl _, rfl, O3.out, S3.out, T3.out⟩
          case round =>
            obtain ⟨j, o, r, hjo, rfl, hown, hsrc, hbel⟩ := hrel
            have OW := Lib.hid hown; have SR := Lib.hid hsrc; have BR := Lib.hid hbel
            have hoN : o ≤ N := by have := hsrc.bytes.2.1; rw [HZL.out] at this; exact this
            have RO := Lib.hid hsrc.bytes.2.2
            clear hown hsrc hbel
            have hlt' : (j : Int) < (N : Int) + 1 := by omega
            by_cases ho : o = N
            · go_wp2_with fail
              refine (read_stop (1 + n) wr SR.out (by omega) (by rw [HZL.out]; exact ho)).mono ?_; rintro e w4 ⟨a4, c4, rfl, _, s4, u4⟩
              have S4 := Lib.hid s4; have U4 := Lib.hid u4; clear s4 u4
              go_wp2_with fail
              refine (read_stop 1 w4 S4.out (by decide) (by rw [HZL.out]; exact ho)).mono ?_; rintro e w5 ⟨a5, c5, rfl, _, s5, u5⟩
              have S5 := Lib.hid s5; have U5 := Lib.hid u5; clear s5 u5
              have OW5 := own_out (own_out OW.out U4.out (Nat.le_refl _)) U5.out (Nat.le_refl _)
              obtain ⟨gb, gc, rfl, gk, _, _, gl, _⟩ := own_any OW5
              have ez : Z.take o = Z := List.take_of_length_le (by rw [HZL.out]; omega)
              rw [ez] at gk
              have GK := Lib.hid (gk.bytes S5.out.bytes.1)
              have BB := Lib.hid ((BR.out.trans (U4.out.below G1.out (by have := SR.out.size; have := G1.out; have := G2.out; omega))).trans (U5.out.below G1.out (by have := S4.out.size; have := G1.out; have := G2.out; omega)))
              clear OW5 gk gl ez
              have hc1 : ∀ q : Of (fun w' => Below w5.heap.size w5 w'), (convert 22 9 (.slice gb N gc)).run Try.prog q.w = .ok (.string SZ) q.w := fun q => by
                rw [hSZ.out]; exact run_str_in (P := Try.prog) Try.underlying22 Try.underlying5 Try.underlying9 (GK.out.below q.h) N gc HZL.out
              have hc2 : ∀ q : Of (fun w' => Below w5.heap.size w5 w'), (convert 22 9 (.slice a N cap)).run Try.prog q.w = .ok (.string SZ) q.w := fun q => by
                rw [hSZ.out]; exact run_str_in (P := Try.prog) Try.underlying22 Try.underlying5 Try.underlying9 ((BN.out.block BB.out.size (fun _ _ h => BB.out.block _ h)).below q.h) N cap HZL.out
              have k1 : N ≤ cap := by have := HC.out; omega
              have k2 : (N : Int) ≤ cap := by omega
              have k3 : (0 : Int) ≤ N := by omega
              go_wp2_with fail
              refine wp_region_class (S := fun w' => Below w5.heap.size w5 w') (by kernel_rfl) (by kernel_rfl) (Below.refl _ _).drew ?_
              intro hne
              repeat (go_big_quiet_step (first | (go_at_call 10; exact Calls.in_class (alive_any _) fun w' hb q => q.trans (hb.mono q.size)) | (go_at_call 8; exact Calls.in_classS (v := .int .i64 o) (fun w' hw' => (offset_ok w' (S5.out.below hw')).mono (fun _ _ h => ⟨h.1, by rw [← h.2]; exact Below.refl _ _⟩)) fun w' hb q => q.trans (hb.mono q.size))))
              refine wpQuiet_nil ?_
              rintro wq ⟨q, rfl⟩
              go_wp2
              go_ret
              exact ⟨rfl, BB.out.trans (q.h.mono BB.out.size)⟩
            · have ho' : o < Z.length := by rw [HZL.out]; omega
              obtain ⟨k, hk⟩ := named (readK Z.length cs o r (1 + n))
              have hkb := readK_bd (L := Z.length) (cs := cs) (o := o) (r := r) (n := 1 + n) (by omega) ho'
              rw [← hk.out, HZL.out] at hkb
              obtain ⟨kb1, kb2, kb3⟩ := hkb
              have kb4 : ¬ (k : Int) < 1 := by omega
              have kb5 : (1 : Int) ≤ k := by omega
              have HO := Lib.hid ho'; clear ho'
              go_wp2_with fail
              refine (read_go (1 + n) wr SR.out (by omega) HO.out k hk.out.symm).mono ?_; rintro e w4 ⟨g4, c4, rfl, o4, s4, u4⟩
              have O4 := Lib.hid o4; have S4 := Lib.hid s4; have U4 := Lib.hid u4; clear o4 s4 u4
              have OW4 := Lib.hid (own_out OW.out U4.out (Nat.le_refl _))
              have KL : Hid (((Z.drop o).take k).length = k) := by show _ = _; rw [List.length_take, List.length_drop, HZL.out]; omega
              go_wp2_with (first | (at_builtin; refine wpList_append_k rfl _ _ 22 rfl w2.heap.size 5 .u8 1 Try.underlying22 u8T _ o (Z.take o) rfl OW4.out (some ⟨g4, 0, none⟩) k c4 ((Z.drop o).take k) rfl (InK.of_own O4.out) KL.out (by unfold maxLen; omega) (by omega) (by have := S4.out.size; omega) ?_; intro v5 w5 o5 b5; rw [take_take_drop] at o5; have O5 := Lib.hid o5; have B5 := Lib.hid b5; clear o5 b5))
              go_roundw
              case rel =>
                have g1 := G1.out; have g2 := G2.out; have z4 := S4.out.size; have zR := SR.out.size
                refine ⟨j + 1, o + k, r + 1, by omega, by go_num, O5.out, ?_, (BR.out.trans (U4.out.below g1 (by omega))).trans (B5.out.mono (by omega))⟩
                exact S4.out.out (lo' := w2.heap.size) (hi' := w5.heap.size + w2.heap.size) (out_of_below B5.out) (.inl (Nat.le_refl _))
              case measure => simp [intOf]; omega
end Go.Proofs.Ytdjfehjamlcceaa
