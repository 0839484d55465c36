/-
  SourceMatchesReference, walked.
-/
import Derived.Test.YtdjfehjamlcceaaSrcRefR
import Derived.Test.YtdjfehjamlcceaaRegion
import Derived.Test.YtdjfehjamlcceaaStructArg
namespace Go.Proofs.Ytdjfehjamlcceaa
open Go.RowKit

/-- the reference's Read, in the words of the source's -/
theorem rread_any {lo hi m : Nat} {zs cs : List Int} {F : Int} {o r : Nat} (n : Int) (w : World) (h : Ref w lo hi m zs F cs o r) (hn2 : n ≤ 9223372036854775807) (Z : List Int) (E : Int) (hZ : Z = zs.take (endN F zs.length)) (hE : E = endE F zs.length) (ho : o ≤ Z.length) :
    Calls Try.prog 13 #[.pointer (some ⟨m, 0, none⟩), .int .i64 n] w fun e w' => ∃ b c, e = .returned (.tuple #[.slice b (readB Z cs o r n).length c, .int .i64 (readE Z E o n)]) ∧
      InK .u8 w' b (readB Z cs o r n) ∧ (∀ x, b = some x → w.heap.size ≤ x.block) ∧ Ref w' lo hi m zs F cs (readO Z cs o r n) (readR Z o r n) ∧ Out lo hi w w' := by
  have hl : Z.length = endN F zs.length := by rw [hZ, List.length_take]; have := endN_le F zs.length; omega
  by_cases h1 : n < 1
  · have e1 : readB Z cs o r n = [] := if_pos (.inl h1)
    have e2 : readE Z E o n = 2 := if_pos h1
    have e3 : readO Z cs o r n = o := if_pos (.inl h1)
    have e4 : readR Z o r n = r := if_pos (.inl h1)
    rw [e1, e2, e3, e4]
    refine (rread_arg n w h h1).mono ?_
    rintro e w' ⟨rfl, rfl⟩
    exact ⟨none, 0, rfl, .inl rfl, (fun x hx => by cases hx), h, .refl _ _ _⟩
  · by_cases h2 : o = Z.length
    · have e1 : readB Z cs o r n = [] := if_pos (.inr h2)
      have e2 : readE Z E o n = E := by unfold readE; rw [if_neg h1, if_pos h2]
      have e3 : readO Z cs o r n = o := if_pos (.inr h2)
      have e4 : readR Z o r n = r := if_pos (.inr h2)
      rw [e1, e2, e3, e4, hE]
      refine (rread_stop n w h (by omega) (by omega)).mono ?_
      rintro e w' ⟨rfl, h3, h4⟩
      exact ⟨none, 0, rfl, .inl rfl, (fun x hx => by cases hx), h3, h4⟩
    · obtain ⟨k, hk⟩ : ∃ k, readK Z.length cs o r n = k := ⟨_, rfl⟩
      have hb := readK_bd (cs := cs) (r := r) (n := n) (by omega) (show o < Z.length by omega)
      rw [hk] at hb
      have e0 : (Z.drop o).take k = (zs.drop o).take k := by
        rw [hZ, List.drop_take, List.take_take, Nat.min_eq_left (by omega)]
      have e1 : readB Z cs o r n = (zs.drop o).take k := by unfold readB; rw [if_neg (by omega), hk, e0]
      have e2 : readE Z E o n = 0 := by unfold readE; rw [if_neg h1, if_neg h2]
      have e3 : readO Z cs o r n = o + k := by unfold readO; rw [if_neg (by omega), hk]
      have e4 : readR Z o r n = r + 1 := if_neg (by omega)
      have hlz : endN F zs.length ≤ zs.length := endN_le _ _
      have e5 : ((zs.drop o).take k).length = k := by rw [List.length_take, List.length_drop]; omega
      rw [e1, e2, e3, e4, e5]
      refine (rread_go n w h (by omega) hn2 (by omega) k (by rw [← hl]; exact hk)).mono ?_
      rintro e w' ⟨b, c, rfl, h3, h4, h5, h6⟩
      exact ⟨b, c, rfl, h3, h4, h5, h6⟩

set_option maxRecDepth 100000 in
set_option maxHeartbeats 8000000 in
theorem walk_SourceMatchesReference (a : Option Addr) (len cap : Nat) (zs : List Int) (ca : Option Addr) (cl cc : Nat) (cs : List Int) (F : Int) (ra : Option Addr) (rl rc : Nat) (rs : List Int) (w : World) (hz : ArgInts .u8 w a len cap zs) (hc : ArgInts .i64 w ca cl cc cs)
    (_ : (Lit.int .i64 F).wf = true) (hr : ArgInts .i64 w ra rl rc rs) :
    Calls Try.prog 3 #[.slice a len cap, .agg #[.slice ca cl cc, .int .i64 F], .slice ra rl rc] w fun e w' => e = .returned (.bool true) ∧ Below w.heap.size w w' := by
  have HB := Lib.hid hz.bytes; have HL := Lib.hid hz.1; have HC := Lib.hid hz.2.1; have HI := Lib.hid hc.inK; have HCL := Lib.hid hc.1; have HR := Lib.hid hr.inK; have HRL := Lib.hid hr.1; have HW := Lib.hid hr.2.2.2.1
  clear hz hc hr
  by_cases h5000 : (5000 : Int) < len
  · go_enter Try.func3, Try.ntmps3
    go_wp2_with (first | (refine wpList_box_obj rfl 25 _ rfl [.slice ca cl cc, .int .i64 F] rfl ?_; intro w1 h1 b1; have H1 := Lib.hid h1; have B1 := Lib.hid b1; have c0 := h1.get 0 rfl; have c1 := h1.get 1 rfl; clear h1 b1))
    refine (read_nil 1 w1).mono ?_; rintro e w2 ⟨rfl, rfl⟩
    go_wp2_with fail
    refine (offset_nil w1).mono ?_; rintro e w2 ⟨rfl, rfl⟩
    go_wp2_with fail
    refine (reads_nil w1).mono ?_; rintro e w2 ⟨rfl, rfl⟩
    go_wp2_with fail
    refine (alive_any _).mono ?_; rintro e w2 ⟨rfl, b2⟩
    go_wp2
    go_ret
    exact ⟨rfl, B1.out.trans (b2.mono B1.out.size)⟩
  · by_cases hr300 : (300 : Int) < rl
    · go_enter Try.func3, Try.ntmps3
      go_wp2_with (first | (refine wpList_box_obj rfl 25 _ rfl [.slice ca cl cc, .int .i64 F] rfl ?_; intro w1 h1 b1; have H1 := Lib.hid h1; have B1 := Lib.hid b1; have c0 := h1.get 0 rfl; have c1 := h1.get 1 rfl; clear h1 b1))
      refine (read_nil 1 w1).mono ?_; rintro e w2 ⟨rfl, rfl⟩
      go_wp2_with fail
      refine (offset_nil w1).mono ?_; rintro e w2 ⟨rfl, rfl⟩
      go_wp2_with fail
      refine (reads_nil w1).mono ?_; rintro e w2 ⟨rfl, rfl⟩
      go_wp2_with fail
      refine (alive_any _).mono ?_; rintro e w2 ⟨rfl, b2⟩
      go_wp2
      go_ret
      exact ⟨rfl, B1.out.trans (b2.mono B1.out.size)⟩
    · by_cases h300 : (300 : Int) < cl
      · go_enter Try.func3, Try.ntmps3
        go_wp2_with (first | (refine wpList_box_obj rfl 25 _ rfl [.slice ca cl cc, .int .i64 F] rfl ?_; intro w1 h1 b1; have H1 := Lib.hid h1; have B1 := Lib.hid b1; have c0 := h1.get 0 rfl; have c1 := h1.get 1 rfl; clear h1 b1))
        refine (read_nil 1 w1).mono ?_; rintro e w2 ⟨rfl, rfl⟩
        go_wp2_with fail
        refine (offset_nil w1).mono ?_; rintro e w2 ⟨rfl, rfl⟩
        go_wp2_with fail
        refine (reads_nil w1).mono ?_; rintro e w2 ⟨rfl, rfl⟩
        go_wp2_with fail
        refine (alive_any _).mono ?_; rintro e w2 ⟨rfl, b2⟩
        go_wp2
        go_ret
        exact ⟨rfl, B1.out.trans (b2.mono B1.out.size)⟩
      · go_enter Try.func3, Try.ntmps3
        go_wp2_with (first | (refine wpList_box_obj rfl 25 _ rfl [.slice ca cl cc, .int .i64 F] rfl ?_; intro w1 h1 b1; have H1 := Lib.hid h1; have B1 := Lib.hid b1; have c0 := h1.get 0 rfl; have c1 := h1.get 1 rfl; clear h1 b1))
        refine (read_nil 1 w1).mono ?_; rintro e w2 ⟨rfl, rfl⟩
        go_wp2_with fail
        refine (offset_nil w1).mono ?_; rintro e w2 ⟨rfl, rfl⟩
        go_wp2_with fail
        refine (reads_nil w1).mono ?_; rintro e w2 ⟨rfl, rfl⟩
        go_wp2_with fail
        have G1 := Lib.hid B1.out.size; have LT := Lib.hid H1.out.lt
        have HB1 := Lib.hid (HB.out.below B1.out); have HI1 := Lib.hid (HI.out.below B1.out)
        have K1 : Hid (∀ w', Below w1.heap.size w1 w' → w'.cell? ⟨w.heap.size, 0, none⟩ = some (.slice ca cl cc) ∧ w'.cell? ⟨w.heap.size, 1, none⟩ = some (.int .i64 F)) := fun w' hb => ⟨(H1.out.below hb H1.out.lt).get 0 rfl, (H1.out.below hb H1.out.lt).get 1 rfl⟩
        obtain ⟨Z, hZ⟩ := named (zs.take (endN F len))
        obtain ⟨E, hE⟩ := named (endE F len)
        have n6 : Hid (∀ w6, Below w1.heap.size w1 w6 → Calls Try.prog 11 #[.slice a len cap, .agg #[.slice ca cl cc, .int .i64 F]] w6 fun e w' => ∃ s, e = .returned (.pointer (some ⟨s, 0, none⟩)) ∧ Src w' w6.heap.size w'.heap.size s Z E cs 0 0 ∧ Below w6.heap.size w6 w' ∧ Below w1.heap.size w1 w') := by
          intro w6 b6
          refine (new_any a len cap zs ca cl cc cs F w6 (HB1.out.below b6) HL.out HC.out (by omega) (HI1.out.below b6) HCL.out (by omega)).mono ?_
          rintro e w7 ⟨s, rfl, s7, b7⟩
          rw [← hZ.out, ← hE.out] at s7
          exact ⟨s, rfl, s7, b7, b6.trans (b7.mono b6.size)⟩
        have n7 : Hid (∀ w6, Below w1.heap.size w1 w6 → Calls Try.prog 12 #[.slice a len cap, .agg #[.slice ca cl cc, .int .i64 F]] w6 fun e w' => ∃ m, e = .returned (.pointer (some ⟨m, 0, none⟩)) ∧ Ref w' w6.heap.size w'.heap.size m zs F cs 0 0 ∧ Below w6.heap.size w6 w' ∧ Below w1.heap.size w1 w') := by
          intro w6 b6
          refine (rnew_any a len cap zs ca cl cc cs F w6 (HB1.out.below b6) HL.out (by omega) (HI1.out.below b6) HCL.out (by omega)).mono ?_
          rintro e w7 ⟨m, rfl, s7, b7⟩
          exact ⟨m, rfl, s7, b7, b6.trans (b7.mono b6.size)⟩
        go_region_held3 (fun w' => w'.cell? ⟨w.heap.size, 0, none⟩ = some (.slice ca cl cc) ∧ w'.cell? ⟨w.heap.size, 1, none⟩ = some (.int .i64 F)) (first | exact ⟨c0, c1⟩ | exact K1.out _ (Below.refl _ _).drew | exact K1.out _ B7.out | exact K1.out _ B6.out) (first | (go_at_call 11; refine (n6.out _ (Below.refl _ _).drew).mono ?_; rintro e w6 ⟨s, rfl, s6, x6, b6⟩; have S6 := Lib.hid s6; have B6 := Lib.hid b6; have X6 := Lib.hid x6; clear s6 b6 x6) | (go_at_call 12; refine (n7.out _ B6.out).mono ?_; rintro e w7 ⟨m, rfl, r7, x7, b7⟩; have R7 := Lib.hid r7; have B7 := Lib.hid b7; have X7 := Lib.hid x7; clear r7 b7 x7))
        have S7 : Hid (Src w7 w1.heap.size w6.heap.size s Z E cs 0 0) := S6.out.below X7.out
        have T7 := Lib.hid (B1.out.trans (B7.out.mono B1.out.size))
        have G6 := Lib.hid B6.out.size; have G7 := Lib.hid X7.out.size
        clear c0 c1
        go_wp2_with fail
        go_loopw [65] (fun i wr => ∃ j o r : Nat, j ≤ rl ∧ i = .int .i64 j ∧ Src wr w1.heap.size w6.heap.size s Z E cs o r ∧ Ref wr w6.heap.size w7.heap.size m zs F cs o r ∧ Below w.heap.size w wr) (fun i _ => rl - (intOf i).toNat)
        case atStart => exact ⟨0, 0, 0, Nat.zero_le _, rfl, S7.out, R7.out, T7.out⟩
        case round =>
          obtain ⟨j, o, r, hj, rfl, hs, hm, hbel⟩ := hrel
          have SS := Lib.hid hs; have RM := Lib.hid hm; have BR := Lib.hid hbel
          clear hs hm hbel
          by_cases hlt : j < rl
          · obtain ⟨b, off, rfl, _⟩ := HR.out.plain (by rw [HRL.out]; omega)
            obtain ⟨n, hn⟩ := named (rs.getD j 0)
            have hcell := (HR.out.below BR.out).get j (by rw [HRL.out]; exact hlt)
            rw [← hn.out] at hcell
            have hwf : (Lit.int .i64 n).wf = true := HW.out n (by rw [hn.out, List.getD_eq_getElem?_getD, List.getElem?_eq_getElem (by rw [HRL.out]; exact hlt)]; exact List.getElem_mem _)
            have N2 : Hid (n ≤ 9223372036854775807) := (bounds_i64 hwf).2
            have hlt' : (j : Int) < rl := by omega
            clear hwf
            obtain ⟨B, hB⟩ := named (readB Z cs o r n)
            obtain ⟨Ev, hEv⟩ := named (readE Z E o n)
            obtain ⟨o', ho'⟩ := named (readO Z cs o r n)
            obtain ⟨r', hr'⟩ := named (readR Z o r n)
            obtain ⟨SB, hSB⟩ := named (strOfNums B)
            obtain ⟨nB, hnB⟩ := named B.length
            have BY : Hid (Bytes B) := by show Bytes _; rw [hB.out]; exact readB_bytes SS.out.bytes.1 _ _ _ _
            go_wp2_with fail
            refine (read_any n wr SS.out).mono ?_; rintro e w8 ⟨v8, rfl, o8, s8, u8⟩
            rw [← hB.out, ← hnB.out] at o8; rw [← ho'.out, ← hr'.out] at s8; rw [← hEv.out]
            obtain ⟨a8, c8, rfl, k8, _, _, _, x8⟩ := own_any o8
            have S8 := Lib.hid s8; have U8 := Lib.hid u8; have K8 := Lib.hid k8; have X8 := Lib.hid x8
            have M8 := Lib.hid (RM.out.out u8 (.inr (Nat.le_refl _)))
            clear s8 u8 o8 k8 x8
            go_wp2_with fail
            refine (rread_any n w8 M8.out N2.out Z E (by rw [hZ.out, HL.out]) (by rw [hE.out, HL.out]) SS.out.bytes.2.1).mono ?_; rintro e w9 ⟨a9, c9, rfl, k9, x9, m9, u9⟩
            rw [← hB.out] at k9; rw [← ho'.out, ← hr'.out] at m9; rw [← hEv.out, ← hB.out, ← hnB.out]
            have M9 := Lib.hid m9; have U9 := Lib.hid u9
            have S9 := Lib.hid (S8.out.out u9 (.inl (Nat.le_refl _)))
            have Y8 := Lib.hid ((K8.out.out u9 (fun x hx => .inr (Nat.le_trans RM.out.size.1 (X8.out x hx).1))).bytes BY.out)
            have Y9 := Lib.hid (k9.bytes BY.out)
            have BR9 := Lib.hid ((BR.out.trans (U8.out.below G1.out BR.out.size)).trans (U9.out.below (by have := G1.out; have := G6.out; omega) (by have := BR.out.size; have := U8.out.size; omega)))
            clear m9 u9 k9 x9
            have hc1 : ∀ q : Of (fun w' => Below w9.heap.size w9 w'), (convert 22 9 (.slice a8 nB c8)).run Try.prog q.w = .ok (.string SB) q.w := fun q => by
              rw [hSB.out]; exact run_str_in (P := Try.prog) Try.underlying22 Try.underlying5 Try.underlying9 (Y8.out.below q.h) nB c8 hnB.out.symm
            have hc2 : ∀ q : Of (fun w' => Below w9.heap.size w9 w'), (convert 22 9 (.slice a9 nB c9)).run Try.prog q.w = .ok (.string SB) q.w := fun q => by
              rw [hSB.out]; exact run_str_in (P := Try.prog) Try.underlying22 Try.underlying5 Try.underlying9 (Y9.out.below q.h) nB c9 hnB.out.symm
            obtain ⟨da, dc, sa, sc, hmo, _⟩ := M9.out
            have hl3 : ∀ q : Of (fun w' => Below w9.heap.size w9 w'), q.w.cell? ⟨m, 3, none⟩ = some (.int .i64 o') := fun q => (hmo.below q.h hmo.lt).get 3 rfl
            have hl4 : ∀ q : Of (fun w' => Below w9.heap.size w9 w'), q.w.cell? ⟨m, 4, none⟩ = some (.int .i64 r') := fun q => (hmo.below q.h hmo.lt).get 4 rfl
            clear hmo
            go_wp2_with fail
            refine wp_region_class (S := fun w' => Below w9.heap.size w9 w') (by kernel_rfl) (by kernel_rfl) (Below.refl _ _).drew ?_
            intro hne
            repeat (go_big_quiet_step (first | (go_at_call 8; exact Calls.in_classS (v := .int .i64 o') (fun w' hw' => (offset_ok w' (S9.out.below hw')).mono (fun _ _ h => ⟨h.1, by rw [← h.2]; exact Below.refl _ _⟩)) fun w' hb q => q.trans (hb.mono q.size)) | (go_at_call 9; exact Calls.in_classS (v := .int .i64 r') (fun w' hw' => (reads_ok w' (S9.out.below hw')).mono (fun _ _ h => ⟨h.1, by rw [← h.2]; exact Below.refl _ _⟩)) fun w' hb q => q.trans (hb.mono q.size))))
            refine wpQuiet_nil ?_
            rintro wq ⟨q, rfl⟩
            go_wp2
            go_roundw
            case rel => exact ⟨j + 1, o', r', by omega, by go_num, S9.out.below q.h, M9.out.out (lo' := w7.heap.size) (hi' := w7.heap.size) (.of_below q.h (Nat.le_refl _)) (.inl (Nat.le_refl _)), BR9.out.trans (q.h.mono BR9.out.size)⟩
            case measure => simp [intOf]; omega
          · obtain rfl : rl = j := by omega
            go_wp2_with fail
            refine (alive_any _).mono ?_; rintro e w8 ⟨rfl, b8⟩
            go_wp2
            go_ret
            exact ⟨rfl, BR.out.trans (b8.mono BR.out.size)⟩
end Go.Proofs.Ytdjfehjamlcceaa
