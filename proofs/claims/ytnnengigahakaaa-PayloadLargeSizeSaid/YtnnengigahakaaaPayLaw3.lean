/-
  PayloadLargeSize, walked.
-/
import Derived.Test.YtnnengigahakaaaPayAlive
import Derived.Test.YtnnengigahakaaaPayRead
import Derived.Test.YtnnengigahakaaaPayMore
import Derived.Test.YtnnengigahakaaaSrcUse
namespace Go.Proofs.Ytnnengigahakaaa
open Go.RowKit

set_option maxRecDepth 100000 in
set_option maxHeartbeats 8000000 in
theorem walk_PayloadLargeSize (a : Option Addr) (len cap : Nat) (zs : List Int) (z : Int) (w : World) (hzs : ArgInts .u8 w a len cap zs) (_ : (Lit.int .i64 z).wf = true) :
    Calls Try.prog 5 #[.slice a len cap, .int .i64 z] w fun e w' => e = .returned (.bool true) ∧ Below w.heap.size w w' := by
  have HB := Lib.hid hzs.bytes; have HL := Lib.hid hzs.1; have HC := Lib.hid hzs.2.1
  clear hzs
  by_cases h3000 : (3000 : Int) < len
  · go_enter Try.func5, Try.ntmps5
    go_wp2_with fail
    refine (alive_any _).mono ?_; rintro e w2 ⟨rfl, b2⟩
    go_wp2
    go_ret
    exact ⟨rfl, b2⟩
  · have EN : Hid (endN (-1) len = len) := by show _ = _; unfold endN; rw [if_neg (by omega)]
    have EE : Hid (endE (-1) len = 4) := by show _ = _; unfold endE; rw [if_neg (by omega)]
    have ET : Hid (zs.take len = zs) := List.take_of_length_le (by rw [HL.out]; exact Nat.le_refl _)
    by_cases hbad : szBad z
    · obtain ⟨e1, e2, e3, e4, e5⟩ := rd_bad (Z := zs) (E := 4) (o := 0) (err := 0) hbad
      have EQ : Hid (rdE zs 4 0 0 z = 3 ∧ rdP zs 0 0 z = 0 ∧ rdD zs 0 0 z = [] ∧ rdO zs 0 0 z = 0 ∧ rdS zs 4 0 0 z = 0) := ⟨e1, e2, e3, e4, e5⟩
      clear e1 e2 e3 e4 e5
      by_cases h0 : z < 0
      · clear hbad
        go_enter Try.func5, Try.ntmps5
        go_wp2_with fail
        refine (new_any a len cap zs none 0 0 [] (-1) w HB.out HL.out HC.out (by omega) (.inl rfl) rfl (by decide)).mono ?_; rintro e w2 ⟨s', rfl, s2, b2⟩
        rw [EN.out, EE.out, ET.out] at s2
        have S2 := Lib.hid s2; have B2 := Lib.hid b2
        clear s2 b2
        go_wp2_with fail
        refine (rdr_new w2 S2.out).mono ?_; rintro e w3 ⟨q, rfl, r3, b3⟩
        have R3 := Lib.hid r3; have B3 := Lib.hid (B2.out.trans (b3.mono B2.out.size))
        clear r3 b3
        go_wp2_with fail
        refine (pread_any z w3 R3.out (.inr rfl)).mono ?_; rintro e w4 ⟨⟨b4, c4, rfl, l4, i4, x4⟩, r4, u4⟩
        rw [EQ.out.1, EQ.out.2.1, EQ.out.2.2.1]
        have B4 := Lib.hid (B3.out.trans (u4.below (B := w.heap.size) (Nat.le_refl _) B3.out.size))
        rw [EQ.out.2.2.2.1, EQ.out.2.2.2.2] at r4
        have R4 := Lib.hid r4
        clear l4 i4 x4 r4 u4
        go_wp2_with fail
        refine (alive_any _).mono ?_; rintro e w5 ⟨rfl, b5⟩
        have B5 := Lib.hid (B4.out.trans (b5.mono B4.out.size)); have R5 := Lib.hid (R4.out.below b5)
        clear b5
        go_wp2_with fail
        refine (rdr_off w5 R5.out).mono ?_; rintro e w6 ⟨rfl, rfl⟩
        go_wp2_with fail
        go_ret
        exact ⟨rfl, B5.out⟩
      · have h1 : 1099511627776 < z := hbad.resolve_left h0
        clear hbad
        go_enter Try.func5, Try.ntmps5
        go_wp2_with fail
        refine (new_any a len cap zs none 0 0 [] (-1) w HB.out HL.out HC.out (by omega) (.inl rfl) rfl (by decide)).mono ?_; rintro e w2 ⟨s', rfl, s2, b2⟩
        rw [EN.out, EE.out, ET.out] at s2
        have S2 := Lib.hid s2; have B2 := Lib.hid b2
        clear s2 b2
        go_wp2_with fail
        refine (rdr_new w2 S2.out).mono ?_; rintro e w3 ⟨q, rfl, r3, b3⟩
        have R3 := Lib.hid r3; have B3 := Lib.hid (B2.out.trans (b3.mono B2.out.size))
        clear r3 b3
        go_wp2_with fail
        refine (pread_any z w3 R3.out (.inr rfl)).mono ?_; rintro e w4 ⟨⟨b4, c4, rfl, l4, i4, x4⟩, r4, u4⟩
        rw [EQ.out.1, EQ.out.2.1, EQ.out.2.2.1]
        have B4 := Lib.hid (B3.out.trans (u4.below (B := w.heap.size) (Nat.le_refl _) B3.out.size))
        rw [EQ.out.2.2.2.1, EQ.out.2.2.2.2] at r4
        have R4 := Lib.hid r4
        clear l4 i4 x4 r4 u4
        go_wp2_with fail
        refine (alive_any _).mono ?_; rintro e w5 ⟨rfl, b5⟩
        have B5 := Lib.hid (B4.out.trans (b5.mono B4.out.size)); have R5 := Lib.hid (R4.out.below b5)
        clear b5
        go_wp2_with fail
        refine (rdr_off w5 R5.out).mono ?_; rintro e w6 ⟨rfl, rfl⟩
        go_wp2_with fail
        go_ret
        exact ⟨rfl, B5.out⟩
    · have h0 : ¬ z < 0 := fun h => hbad (.inl h)
      have h1 : ¬ 1099511627776 < z := fun h => hbad (.inr h)
      clear hbad
      by_cases hl : (len : Int) < z
      · obtain ⟨s, rfl⟩ : ∃ s : Nat, z = s := ⟨z.toNat, by omega⟩
        obtain ⟨e1, e2, e3⟩ := rd_short (Z := zs) (s := s) (by omega) (by rw [HL.out]; have := blkN_le s; omega)
        rw [HL.out] at e2
        have EQ : Hid (rdE zs 4 0 0 s = 5 ∧ rdP zs 0 0 s = len ∧ rdD zs 0 0 s = []) := ⟨e1, e2, e3⟩
        clear e1 e2 e3
        go_enter Try.func5, Try.ntmps5
        go_wp2_with fail
        refine (new_any a len cap zs none 0 0 [] (-1) w HB.out HL.out HC.out (by omega) (.inl rfl) rfl (by decide)).mono ?_; rintro e w2 ⟨s', rfl, s2, b2⟩
        rw [EN.out, EE.out, ET.out] at s2
        have S2 := Lib.hid s2; have B2 := Lib.hid b2
        clear s2 b2
        go_wp2_with fail
        refine (rdr_new w2 S2.out).mono ?_; rintro e w3 ⟨q, rfl, r3, b3⟩
        have R3 := Lib.hid r3; have B3 := Lib.hid (B2.out.trans (b3.mono B2.out.size))
        clear r3 b3
        go_wp2_with fail
        refine (pread_any (s : Int) w3 R3.out (.inr rfl)).mono ?_; rintro e w4 ⟨⟨b4, c4, rfl, l4, i4, x4⟩, r4, u4⟩
        rw [EQ.out.1, EQ.out.2.1, EQ.out.2.2]
        have B4 := Lib.hid (B3.out.trans (u4.below (B := w.heap.size) (Nat.le_refl _) B3.out.size))
        clear l4 i4 x4 r4 u4
        go_wp2_with fail
        refine (alive_any _).mono ?_; rintro e w5 ⟨rfl, b5⟩
        have B5 := Lib.hid (B4.out.trans (b5.mono B4.out.size))
        clear b5
        go_wp2_with fail
        go_ret
        exact ⟨rfl, B5.out⟩
      · go_enter Try.func5, Try.ntmps5
        go_wp2_with fail
        refine (new_any a len cap zs none 0 0 [] (-1) w HB.out HL.out HC.out (by omega) (.inl rfl) rfl (by decide)).mono ?_; rintro e w2 ⟨s, rfl, s2, b2⟩
        rw [EN.out, EE.out, ET.out] at s2
        have S2 := Lib.hid s2; have B2 := Lib.hid b2
        clear s2 b2
        go_wp2_with fail
        refine (rdr_new w2 S2.out).mono ?_; rintro e w3 ⟨q, rfl, r3, b3⟩
        have R3 := Lib.hid r3; have B3 := Lib.hid (B2.out.trans (b3.mono B2.out.size))
        clear r3 b3
        go_wp2_with fail
        refine (pread_any z w3 R3.out (.inr rfl)).mono ?_; rintro e w4 ⟨⟨b4, c4, rfl, l4, i4, x4⟩, r4, u4⟩
        have B4 := Lib.hid (B3.out.trans (u4.below (B := w.heap.size) (Nat.le_refl _) B3.out.size))
        clear l4 i4 x4 r4 u4
        go_wp2_with fail
        refine (alive_any _).mono ?_; rintro e w5 ⟨rfl, b5⟩
        have B5 := Lib.hid (B4.out.trans (b5.mono B4.out.size))
        clear b5
        go_wp2_with fail
        go_ret
        exact ⟨rfl, B5.out⟩
end Go.Proofs.Ytnnengigahakaaa
