/-
  CstringRoundTrip, walked.
-/
import Derived.Test.YtbchehpjimgapaaDoorCstAlive
import Derived.Test.YtbchehpjimgapaaDoorCstParse
namespace Go.Proofs.YtbchehpjimgapaaDoor
open Go.RowKit

theorem fld_len {s : ByteArray} {k : Nat} (h : ceF (numsOf s) k = 0) : (fldS (numsOf s) k).length = k := fldS_length _ _ (by have := (ceF_zero.1 h).2.2.2; omega)

/-- what Format has written is parsed again -/
theorem parse_fld (a : Option Addr) (s : ByteArray) (k c : Nat) (w : World) (h : BytesIn w a (fldS (numsOf s) k)) (hf : ceF (numsOf s) k = 0) (hc : k ≤ c) (hm : c ≤ maxLen) :
    Calls Tryd.prog 7 #[.slice a k c] w fun e w' => e = .returned (.tuple #[.string s, .int .i64 0]) ∧ w = w' := by
  have := parse_in a k c _ w h (fld_len hf) hc hm
  have h1 := ceF_zero.1 hf
  have e1 : cpE (fldS (numsOf s) k) = 0 := cpE_zero.2 ⟨by rw [fld_len hf]; omega, by rw [fld_len hf]; omega, by rw [trim_fldS k h1.2.2.1]; exact h1.2.2.1⟩
  rw [e1, cpS_ok e1, trim_fldS k h1.2.2.1, strOfNums_numsOf] at this
  exact this

theorem fmt_err (s : ByteArray) (wd : Int) (w : World) (E : Int) (h : ceF (numsOf s) wd = E) (h0 : (E != 0) = true) :
    Calls Tryd.prog 9 #[.string s, .int .i64 wd] w fun e w' => e = .returned (.tuple #[.slice none 0 0, .int .i64 E]) ∧ w = w' := by
  have := fmt_bad s wd w (by rw [h]; exact h0)
  rw [h] at this
  exact this

theorem BytesIn.bd {w : World} {a : Option Addr} {zs : List Int} (h : BytesIn w a zs) : ∀ z ∈ zs, 0 ≤ z ∧ z ≤ 255 := by
  rcases h with h | ⟨_, _, _, _, h⟩
  · subst h; simp
  · exact h.2

theorem back_nums {zs : List Int} (he : cpE zs = 0) (hb : ∀ z ∈ zs, 0 ≤ z ∧ z ≤ 255) : numsOf (strOfNums (cpS zs)) = trimZ zs := by
  rw [numsOf_strOfNums (cpS_bd zs hb), cpS_ok he]
theorem back_ok {zs : List Int} {len : Nat} (hz : zs.length = len) (he : cpE zs = 0) (hb : ∀ z ∈ zs, 0 ≤ z ∧ z ≤ 255) : ceF (numsOf (strOfNums (cpS zs))) len = 0 := by
  obtain ⟨h1, h2, h3⟩ := cpE_zero.1 he
  rw [back_nums he hb]
  exact ceF_zero.2 ⟨by omega, by omega, h3, by have := trimZ_length zs; omega⟩
theorem back_len {zs : List Int} {len : Nat} (hz : zs.length = len) (he : cpE zs = 0) (hb : ∀ z ∈ zs, 0 ≤ z ∧ z ≤ 255) : (fldS (numsOf (strOfNums (cpS zs))) len).length = len := fld_len (back_ok hz he hb)
theorem back_eq {zs : List Int} {len : Nat} (hz : zs.length = len) (he : cpE zs = 0) (hb : ∀ z ∈ zs, 0 ≤ z ∧ z ≤ 255) : strOfNums (fldS (numsOf (strOfNums (cpS zs))) len) = strOfNums zs := by
  rw [back_nums he hb, ← hz, fldS_trim]

set_option maxHeartbeats 2000000 in
theorem rt_ok_ok (s : ByteArray) (k : Nat) (a : Option Addr) (len cap : Nat) (zs : List Int) (w : World) (hz : Hid (zs.length = len)) (hb : Hid (BytesIn w a zs)) (hlc : len ≤ cap) (HM : Hid (cap ≤ maxLen)) (hs : ¬ (2000 : Int) < s.size) (hl : ¬ (2000 : Int) < len)
    (hf : Hid (ceF (numsOf s) k = 0)) (he : Hid (cpE zs = 0)) :
    Calls Tryd.prog 4 #[.string s, .int .i64 k, .slice a len cap] w fun e w' => e = .returned (.bool true) ∧ Below w.heap.size w w' := by
  go_enter Tryd.func4, Tryd.ntmps4
  go_wp2_with fail
  refine (fmt_cap _ k _ hf.out).mono ?_; rintro e w1 ⟨b1, c1, rfl, hrow1, hlt1, hb1, hc1, hm1⟩
  have H1 := Lib.hid hrow1; clear hrow1
  have HM1 := Lib.hid hm1; clear hm1
  have hbs : Hid (BytesIn w1 a zs) := hb.out.below hb1
  go_wp2_with fail
  refine (parse_fld _ s k _ _ (.of_row H1.out hlt1) hf.out hc1 HM1.out).mono ?_; rintro e w2 ⟨rfl, rfl⟩
  go_wp2_with fail
  refine (parse_in _ _ _ zs _ hbs.out hz.out hlc HM.out).mono ?_; rintro e w3 ⟨rfl, rfl⟩
  rw [he.out]
  go_wp2_with fail
  refine (fmt_ok _ len _ (back_ok hz.out he.out hbs.out.bd)).mono ?_; rintro e w4 ⟨b4, c4, rfl, hrow4, hlt4, hb4⟩
  have H4 := Lib.hid hrow4; clear hrow4
  go_wp2_with fail
  refine (alive_any _).mono ?_; rintro e w5 ⟨rfl, hb5⟩
  have hcv1 := run_str_in (P := Tryd.prog) Tryd.underlying22 Tryd.underlying5 Tryd.underlying9 ((hbs.out.below hb4).below hb5) len cap hz.out
  have hcv2 := run_str_of (P := Tryd.prog) Tryd.underlying22 Tryd.underlying5 Tryd.underlying9 (H4.out.below hb5 hlt4) len c4 (back_len hz.out he.out hbs.out.bd)
  rw [back_eq hz.out he.out hbs.out.bd] at hcv2
  go_wp2
  go_ret
  exact ⟨rfl, hb1.trans ((hb4.mono hb1.size).trans (hb5.mono (Nat.le_trans hb1.size hb4.size)))⟩

set_option maxHeartbeats 2000000 in
theorem rt_ok_bad (s : ByteArray) (k : Nat) (a : Option Addr) (len cap : Nat) (zs : List Int) (w : World) (hz : Hid (zs.length = len)) (hb : Hid (BytesIn w a zs)) (hlc : len ≤ cap) (HM : Hid (cap ≤ maxLen)) (hs : ¬ (2000 : Int) < s.size) (hl : ¬ (2000 : Int) < len)
    (hf : Hid (ceF (numsOf s) k = 0)) (he : (cpE zs == 0) = false) (hv : Hid (strOfNums (cpS zs) = { data := #[] })) :
    Calls Tryd.prog 4 #[.string s, .int .i64 k, .slice a len cap] w fun e w' => e = .returned (.bool true) ∧ Below w.heap.size w w' := by
  have he2 : (cpE zs != 0) = true := by simpa using he
  go_enter Tryd.func4, Tryd.ntmps4
  go_wp2_with fail
  refine (fmt_cap _ k _ hf.out).mono ?_; rintro e w1 ⟨b1, c1, rfl, hrow1, hlt1, hb1, hc1, hm1⟩
  have H1 := Lib.hid hrow1; clear hrow1
  have HM1 := Lib.hid hm1; clear hm1
  have hbs : Hid (BytesIn w1 a zs) := hb.out.below hb1
  go_wp2_with fail
  refine (parse_fld _ s k _ _ (.of_row H1.out hlt1) hf.out hc1 HM1.out).mono ?_; rintro e w2 ⟨rfl, rfl⟩
  go_wp2_with fail
  refine (parse_in _ _ _ zs _ hbs.out hz.out hlc HM.out).mono ?_; rintro e w3 ⟨rfl, rfl⟩
  rw [hv.out]
  go_wp2_with fail
  refine (alive_any _).mono ?_; rintro e w5 ⟨rfl, hb5⟩
  go_wp2
  go_ret
  exact ⟨rfl, hb1.trans (hb5.mono hb1.size)⟩

set_option maxHeartbeats 2000000 in
theorem rt_err_ok (s : ByteArray) (wd E : Int) (a : Option Addr) (len cap : Nat) (zs : List Int) (w : World) (hz : Hid (zs.length = len)) (hb : Hid (BytesIn w a zs)) (hlc : len ≤ cap) (HM : Hid (cap ≤ maxLen)) (hs : ¬ (2000 : Int) < s.size) (hl : ¬ (2000 : Int) < len)
    (hf : Hid (ceF (numsOf s) wd = E)) (hE : (E == 0) = false) (he : Hid (cpE zs = 0)) :
    Calls Tryd.prog 4 #[.string s, .int .i64 wd, .slice a len cap] w fun e w' => e = .returned (.bool true) ∧ Below w.heap.size w w' := by
  go_enter Tryd.func4, Tryd.ntmps4
  go_wp2_with fail
  refine (fmt_err _ _ _ E hf.out (by simpa using hE)).mono ?_; rintro e w1 ⟨rfl, rfl⟩
  have hbs := hb
  have hb1 := Below.refl w.heap.size w
  go_wp2_with fail
  refine (parse_in _ _ _ zs _ hbs.out hz.out hlc HM.out).mono ?_; rintro e w3 ⟨rfl, rfl⟩
  rw [he.out]
  go_wp2_with fail
  refine (fmt_ok _ len _ (back_ok hz.out he.out hbs.out.bd)).mono ?_; rintro e w4 ⟨b4, c4, rfl, hrow4, hlt4, hb4⟩
  have H4 := Lib.hid hrow4; clear hrow4
  go_wp2_with fail
  refine (alive_any _).mono ?_; rintro e w5 ⟨rfl, hb5⟩
  have hcv1 := run_str_in (P := Tryd.prog) Tryd.underlying22 Tryd.underlying5 Tryd.underlying9 ((hbs.out.below hb4).below hb5) len cap hz.out
  have hcv2 := run_str_of (P := Tryd.prog) Tryd.underlying22 Tryd.underlying5 Tryd.underlying9 (H4.out.below hb5 hlt4) len c4 (back_len hz.out he.out hbs.out.bd)
  rw [back_eq hz.out he.out hbs.out.bd] at hcv2
  go_wp2
  go_ret
  exact ⟨rfl, hb1.trans ((hb4.mono hb1.size).trans (hb5.mono (Nat.le_trans hb1.size hb4.size)))⟩

set_option maxHeartbeats 2000000 in
theorem rt_err_bad (s : ByteArray) (wd E : Int) (a : Option Addr) (len cap : Nat) (zs : List Int) (w : World) (hz : Hid (zs.length = len)) (hb : Hid (BytesIn w a zs)) (hlc : len ≤ cap) (HM : Hid (cap ≤ maxLen)) (hs : ¬ (2000 : Int) < s.size) (hl : ¬ (2000 : Int) < len)
    (hf : Hid (ceF (numsOf s) wd = E)) (hE : (E == 0) = false) (he : (cpE zs == 0) = false) (hv : Hid (strOfNums (cpS zs) = { data := #[] })) :
    Calls Tryd.prog 4 #[.string s, .int .i64 wd, .slice a len cap] w fun e w' => e = .returned (.bool true) ∧ Below w.heap.size w w' := by
  have he2 : (cpE zs != 0) = true := by simpa using he
  go_enter Tryd.func4, Tryd.ntmps4
  go_wp2_with fail
  refine (fmt_err _ _ _ E hf.out (by simpa using hE)).mono ?_; rintro e w1 ⟨rfl, rfl⟩
  have hbs := hb
  have hb1 := Below.refl w.heap.size w
  go_wp2_with fail
  refine (parse_in _ _ _ zs _ hbs.out hz.out hlc HM.out).mono ?_; rintro e w3 ⟨rfl, rfl⟩
  rw [hv.out]
  go_wp2_with fail
  refine (alive_any _).mono ?_; rintro e w5 ⟨rfl, hb5⟩
  go_wp2
  go_ret
  exact ⟨rfl, hb1.trans (hb5.mono hb1.size)⟩

set_option maxHeartbeats 2000000 in
theorem walk_CstringRoundTrip (s : ByteArray) (wd : Int) (a : Option Addr) (len cap : Nat) (zs : List Int) (w : World) (_ : s.size ≤ maxLen) (_ : (Lit.int .i64 wd).wf = true) (h : ArgInts .u8 w a len cap zs) :
    Calls Tryd.prog 4 #[.string s, .int .i64 wd, .slice a len cap] w fun e w' => e = .returned (.bool true) ∧ Below w.heap.size w w' := by
  have hlc := h.2.1
  have HM := Lib.hid h.2.2.1
  have hm : len ≤ maxLen := Nat.le_trans hlc h.2.2.1
  have hz := Lib.hid h.1
  have hb := Lib.hid h.bytes
  clear h
  unfold maxLen at hm
  by_cases hs : (2000 : Int) < s.size
  · go_enter Tryd.func4, Tryd.ntmps4
    go_wp2_with fail
    refine (alive_any _).mono ?_; rintro e w1 ⟨rfl, hb1⟩
    go_wp2
    go_ret
    exact ⟨rfl, hb1⟩
  by_cases hl : (2000 : Int) < len
  · go_enter Tryd.func4, Tryd.ntmps4
    go_wp2_with fail
    refine (alive_any _).mono ?_; rintro e w1 ⟨rfl, hb1⟩
    go_wp2
    go_ret
    exact ⟨rfl, hb1⟩
  by_cases hf : ceF (numsOf s) wd = 0
  · obtain ⟨k, rfl⟩ : ∃ k : Nat, wd = k := ⟨wd.toNat, by have := ceF_zero.1 hf; omega⟩
    by_cases he : cpE zs = 0
    · exact rt_ok_ok s k a len cap zs w hz hb hlc HM hs hl hf he
    · exact rt_ok_bad s k a len cap zs w hz hb hlc HM hs hl hf (by simpa using he) (show _ = _ by rw [cpS_err he]; rfl)
  · by_cases he : cpE zs = 0
    · exact rt_err_ok s wd _ a len cap zs w hz hb hlc HM hs hl rfl (by simpa using hf) he
    · exact rt_err_bad s wd _ a len cap zs w hz hb hlc HM hs hl rfl (by simpa using hf) (by simpa using he) (show _ = _ by rw [cpS_err he]; rfl)

end Go.Proofs.YtbchehpjimgapaaDoor
