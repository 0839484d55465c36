/-
  Layer 7: the program's Decode, as the statements' walks use it.
-/
import Derived.Test.YtbgmhdhfcckbbaaDoorUstIface
import Derived.Test.YtbgmhdhfcckbbaaDoorUstDec2
namespace Go.Proofs.YtbgmhdhfcckbbaaDoor.Ust
open Go.RowKit
open Oct Cst Chk

theorem dec_any (a : Option Addr) (n cap : Nat) (zs : List Int) (w : World) (hb : BytesIn w a zs) (hl : zs.length = n) (hz : Bytes zs) (hc : n ≤ cap) (hm : cap ≤ maxLen) :
    Calls Tryd.prog 15 #[.slice a n cap] w fun e w' => e = .returned (.tuple #[.agg (dH zs).toArray, .int .i64 (deE zs)]) ∧ Below w.heap.size w w' := by
  by_cases h : n = 512
  · subst h
    obtain ⟨b, off, rfl, hlt, hr⟩ : ∃ b off, a = some ⟨b, off, none⟩ ∧ b < w.heap.size ∧ RowAt w b off zs := by
      rcases hb with hb | hb
      · rw [hb] at hl; cases hl
      · exact hb
    by_cases hs : zs = sealZ zs
    · by_cases hk : known (dT zs)
      · exact dec_known b off cap zs w hl hr hlt hc hm hs hk
      · obtain ⟨e1, e2⟩ := de_kind hl hs hk
        rw [e1, e2]
        exact dec_kind b off cap zs w hl hr hlt hs hk
    · obtain ⟨e1, e2⟩ := de_ver hl hs
      rw [e1, e2]
      exact dec_err _ 512 cap w 9 (by decide) fun w' hb' => Chk.ver_ok _ cap zs w' 9 hl (.inr ⟨b, off, rfl, Nat.lt_of_lt_of_le hlt hb'.size, hr.below hb' hlt⟩) hz (.inr ⟨hs, rfl⟩)
  · obtain ⟨e1, e2⟩ := de_len (zs := zs) (by rw [hl]; exact h)
    rw [e1, e2]
    exact dec_err a n cap w 2 (by decide) fun w' _ => Chk.ver_bad a n cap w' h
end Go.Proofs.YtbgmhdhfcckbbaaDoor.Ust
